"""The state of a board behind long rows of operations, its log, twins and equality: points [23], [24] and [4] (g)."""

import random
import time
import unittest

from tests.models import PlainBoard, Refused
from tests.renamed import Renamed
from tests.samples import (
    Agreeing, Hostile, check_raises, no_integers, no_residues, no_rows, random_fixed, random_gains, random_potential,
    random_webs,
)
from tests.test_boards import ring_board, state_of
from turnedties.boards import Board
from turnedties.equivalence import cycle_sums, is_transform, transform
from turnedties.errors import InvalidGains
from turnedties.targets import is_reach
from turnedties.webs import Web
from turnedties.zeros import balance

NAMES = ["switch", "apply", "set_gain", "add_edge", "remove_edge", "add_node", "fix", "release", "reduce"]


def random_arguments(source, model, name):
    """Arguments of an operation, most of them valid."""
    def node():
        return source.choice([-1, model.size, None]) if source.random() < 0.05 else source.randrange(model.size)

    def edge():
        return source.randint(-1 if source.random() < 0.1 else 0, len(model.edges))

    def amount():
        return source.choice([True, "1"]) if source.random() < 0.03 else source.randint(-10 ** 30, 10 ** 30)

    if name == "apply":
        web = model.web()
        potential = random_potential(source, web)
        if source.random() < 0.8:
            potential = [0 if at in model.fixed else value for at, value in enumerate(potential)]
        return (potential + [0] * (source.random() < 0.05),)
    if name == "reduce":
        divisors = [number for number in range(2, 61) if model.modulus % number == 0]
        return (source.choice(divisors if source.random() < 0.8 else [0, 1, 7, 60, None]),)
    return {
        "switch": lambda: (node(), amount()), "set_gain": lambda: (edge(), amount()), "remove_edge": lambda: (edge(),),
        "add_edge": lambda: (node(), node(), amount()), "add_node": lambda: (), "fix": lambda: (node(),),
        "release": lambda: (node(),), "undo": lambda: (),
    }[name]()


def random_operation(source, model):
    """The name of an operation and its arguments."""
    name = source.choices(NAMES + ["undo", "together"], [4, 4, 3, 6, 2, 2, 1, 2, 0.3, 4, 3])[0]
    if name == "together":
        inner = [source.choices(NAMES, [4, 4, 3, 6, 2, 2, 1, 2, 0.1])[0] for at in range(source.randint(0, 4))]
        entries = [(one, *random_arguments(source, model, one)) for one in inner]
        return name, source.choice([list, tuple])(entries)
    return name, *random_arguments(source, model, name)


def told(board):
    """The state of a board as a model keeps it, with its log."""
    web = board.web()
    return [web.size(), web.edges(), web.modulus(), board.gains(), board.fixed()], board.log()


class Rows(unittest.TestCase):
    def step(self, board, model, name, arguments):
        """Do the same in both; returns whether it was done."""
        try:
            expected = model.do(name, *arguments)
        except Refused as refused:
            with self.assertRaises(refused.error) as caught:
                getattr(board, name)(*arguments)
            self.assertIs(refused.error, type(caught.exception))
            if hasattr(caught.exception, "value"):
                self.assertEqual(refused.value, caught.exception.value)
            return False
        found = getattr(board, name)(*arguments)
        self.assertEqual([type(expected), expected], [type(found), found])
        return True

    def test_against_a_model(self):
        source = random.Random(231)
        done = {}
        for web in random_webs(60, 231):
            gains, fixed = random_gains(source, web), random_fixed(source, web)
            board, model = Board(web, gains, fixed=fixed), PlainBoard(web, gains, fixed)
            for at in range(source.choice([20, 150])):
                name, *arguments = random_operation(source, model)
                if self.step(board, model, name, arguments):
                    done[name] = done.get(name, 0) + 1
                self.assertEqual((model.state(), model.log), told(board))
                self.assertEqual(len(model.log), len(board))
            self.check_made_anew(source, board)
            while model.log:
                self.assertTrue(self.step(board, model, "undo", ()))
                self.assertEqual((model.state(), model.log), told(board))
            self.assertEqual((web, gains, sorted(fixed), [], 0), state_of(board))
        self.assertEqual(sorted(NAMES + ["undo", "together"]), sorted(done))
        self.assertGreater(min(done.values()), 20)

    def check_made_anew(self, source, board):
        """A board answers like one made anew with its web, gains and fixed nodes."""
        web, gains, fixed = board.web(), board.gains(), board.fixed()
        anew = Board(web, gains, fixed=fixed)
        self.assertEqual(anew, board)
        self.assertEqual(cycle_sums(web, gains), board.cycle_sums())
        self.assertEqual(anew.cycle_sums(), board.cycle_sums())
        self.assertEqual(balance(web, gains, fixed=fixed), board.balance())
        self.assertEqual(anew.balance(), board.balance())
        for after in (gains, random_gains(source, web)):
            self.assertEqual(transform(web, gains, after, fixed=fixed), board.transform(after))
            self.assertEqual(anew.transform(after), board.transform(after))
        operation = random_operation(source, PlainBoard(web, gains, fixed))
        outcomes = []
        for one in (board.twin(), anew):
            try:
                outcomes.append(getattr(one, operation[0])(*operation[1:]))
            except Exception as error:
                outcomes.append((type(error), getattr(error, "value", None)))
            if operation[0] != "undo":
                outcomes.append((one.web(), one.gains(), one.fixed()))
        if operation[0] != "undo":
            self.assertEqual(outcomes[:2], outcomes[2:])

    def test_boards_at_their_bounds_with_long_logs(self):
        source = random.Random(232)
        started = time.process_time()
        edges = [(source.randrange(30), source.randrange(30)) for number in range(60)]
        board = Board(Web(30, edges), [source.randint(-10 ** 59, 10 ** 59) for edge in edges], fixed=[3])
        first = state_of(board)
        for at in range(300):
            board.switch(at % 30 if at % 30 != 3 else 4, 10 ** 59 + at)
            board.apply([0 if node == 3 else source.randint(-10 ** 59, 10 ** 59) for node in range(30)])
            tail, head, gain = board.remove_edge(at % 60)
            board.together([("add_edge", tail, head, gain), ("set_gain", 59, at)])
        self.assertEqual([1200, 1200], [len(board), len(board.log())])
        twin = board.twin()
        self.assertEqual(state_of(board), state_of(twin))
        for at in range(1200):
            board.undo()
        self.assertEqual(first, state_of(board))
        self.assertEqual(1200, len(twin))
        self.assertLess(time.process_time() - started, 10)


class Answers(unittest.TestCase):
    def test_transform(self):
        board = ring_board(fixed=[2])
        self.assertEqual(("potential", [1, 0, 0]), board.transform([2, 2, 2, 4]))
        self.assertEqual(transform(board.web(), [1, 2, 3, 4], [1, 2, 3, 5], fixed=[2]), board.transform([1, 2, 3, 5]))
        board.fix(0)
        self.assertEqual("fixed", board.transform([2, 2, 2, 4])[0])
        for modulus in (0, 6):
            board = ring_board(modulus, [1])
            for wrong in no_rows([1, 2, 3, 4], no_residues(modulus)):
                before = state_of(board)
                check_raises(self, InvalidGains, wrong, lambda: board.transform(wrong))
                self.assertEqual(before, state_of(board))

    def test_balance(self):
        board = Board(Web(3, [(0, 1), (1, 2)], modulus=5), [1, 4], fixed=(2,))
        self.assertEqual(("potential", [0, 1, 0]), board.balance())
        board.fix(1)
        self.assertEqual("fixed", board.balance()[0])
        board.add_edge(0, 0, 1)
        self.assertEqual(("cycle", [(2, 1)]), board.balance())

    def test_the_order_in_which_nodes_were_fixed_does_not_matter(self):
        for order in ([0, 1, 2], [2, 1, 0], [1, 2, 0]):
            board = ring_board(fixed=order[:1])
            board.fix(order[1])
            board.fix(order[2])
            self.assertEqual([0, 1, 2], board.fixed())
            after = [2, 1, 3, 4]
            self.assertEqual(transform(board.web(), [1, 2, 3, 4], after, fixed=[0, 1, 2]), board.transform(after))

    def test_what_is_returned_is_new(self):
        board = ring_board(fixed=[1])
        board.apply([1, 0, 2])
        before = state_of(board)
        for rows in (
            board.gains(), board.fixed(), board.log(), board.cycle_sums(), board.balance()[1], board.web().edges(),
            board.transform(board.gains())[1], board.transform([0, 0, 0, 0])[1], board.log()[0][1],
        ):
            rows.append(99)
        self.assertEqual(before, state_of(board))
        old = board.gains(), board.fixed(), board.log()
        kept = [list(rows) for rows in old]
        board.switch(0, 1)
        board.fix(0)
        self.assertEqual(kept, list(old))

    def test_the_default_of_add_edge_is_filled_in(self):
        board = ring_board()
        board.add_edge(0, 1)
        board.add_edge(0, 1, 0)
        board.add_edge(0, 1, gain=9)
        board.add_edge(head=0, tail=1)
        self.assertEqual(
            [("add_edge", 0, 1, 0), ("add_edge", 0, 1, 0), ("add_edge", 0, 1, 9), ("add_edge", 1, 0, 0)], board.log(),
        )

    def test_arguments_as_they_were_passed(self):
        board = ring_board()
        board.switch(0, -20)
        board.set_gain(1, 10 ** 60)
        board.reduce(2)
        board.set_gain(1, 4)
        expected = [("switch", 0, -20), ("set_gain", 1, 10 ** 60), ("reduce", 2), ("set_gain", 1, 4)]
        self.assertEqual(expected, board.log())


class Twins(unittest.TestCase):
    def test_independent(self):
        board = ring_board(fixed=[2])
        board.switch(0, 1)
        board.together([("apply", [1, 1, 0]), ("add_node",)])
        twin = board.twin()
        self.assertIs(Board, type(twin))
        self.assertEqual(board, twin)
        self.assertEqual(state_of(board), state_of(twin))
        before = state_of(board)
        twin.switch(1, 1)
        twin.fix(0)
        self.assertEqual(before, state_of(board))
        for at in range(4):
            twin.undo()
        self.assertEqual([before, 0], [state_of(board), len(twin)])
        twin.add_edge(0, 1)
        self.assertEqual([("add_edge", 0, 1, 0)], twin.log())
        other = board.twin()
        board.undo()
        board.undo()
        self.assertEqual([before, 0], [state_of(other), len(board)])
        other.undo()
        self.assertEqual([("switch", 0, 1)], other.log())

    def test_twins_of_twins_do_the_same(self):
        source = random.Random(233)
        for web in random_webs(20, 233):
            board = Board(web, random_gains(source, web))
            model = PlainBoard(web, board.gains())
            for at in range(30):
                operation = random_operation(source, model)
                twin = board.twin().twin()
                outcomes = []
                for one in (board, twin, model):
                    action = model.do if one is model else getattr(one, operation[0])
                    arguments = operation if one is model else operation[1:]
                    try:
                        outcomes.append(("done", action(*arguments)))
                    except Exception as error:
                        outcomes.append(("refused", getattr(error, "value", None)))
                self.assertEqual([outcomes[2]] * 2, outcomes[:2])
                self.assertEqual(state_of(board), state_of(twin))
                board = source.choice([board, twin])


class Equality(unittest.TestCase):
    def test_boards_of_other_logs(self):
        one, two = ring_board(fixed=[2, 0]), Board(ring_board().web(), [1, 2, 3, 4], fixed=(0, 2))
        self.assertEqual(one, two)
        one.switch(1, 1)
        self.assertNotEqual(one, two)
        one.switch(1, -1)
        self.assertEqual(one, two)
        self.assertEqual([2, 0], [len(one), len(two)])
        self.assertTrue(one == two)
        self.assertFalse(one != two)

    def test_other_state(self):
        good = ring_board(fixed=[2])
        web = good.web()
        self.assertNotEqual(good, Board(web, [1, 2, 3, 5], fixed=[2]))
        self.assertNotEqual(good, Board(web, [1, 2, 3, 4]))
        self.assertNotEqual(good, Board(web, [1, 2, 3, 4], fixed=[1]))
        self.assertNotEqual(good, Board(Web(3, web.edges(), modulus=12), [1, 2, 3, 4], fixed=[2]))
        self.assertNotEqual(good, Board(Web(4, web.edges(), modulus=6), [1, 2, 3, 4], fixed=[2]))
        self.assertNotEqual(good, Board(Web(3, web.edges()[::-1], modulus=6), [1, 2, 3, 4], fixed=[2]))
        self.assertEqual(good, Board(web, [1, 2, 3, 4], fixed=[2]))

    def test_anything_else(self):
        board = ring_board()
        others = [other for other in no_integers() if not isinstance(other, (Agreeing, Hostile))]
        for other in others + [board.web(), board.gains(), (board.web(), [1, 2, 3, 4], []), board.state]:
            self.assertIs(False, board == other)
            self.assertIs(True, board != other)
        self.assertIs(False, board == Hostile())
        self.assertIs(False, board == Agreeing())


class Translated(unittest.TestCase):
    def test_renumbered_and_negated(self):
        source = random.Random(234)
        for web in random_webs(80, 234):
            gains, fixed = random_gains(source, web), random_fixed(source, web)
            renamed = Renamed(source, web)
            one = Board(web, gains, fixed=fixed)
            two = Board(renamed.other, renamed.gains(gains), fixed=renamed.some(fixed))
            potential = [0 if node in fixed else value for node, value in enumerate(random_potential(source, web))]
            one.apply(potential)
            two.apply(renamed.by_node(potential))
            self.assertEqual(renamed.gains(one.gains()), two.gains())
            self.assertEqual(sorted(renamed.some(one.fixed())), two.fixed())
            after = random_gains(source, web) if source.random() < 0.5 else gains
            result = one.transform(after)
            self.assertEqual(result[0], two.transform(renamed.gains(after))[0])
            accepted = is_transform(
                two.web(), two.gains(), renamed.gains(after), renamed.result(result), fixed=two.fixed(),
            )
            self.assertTrue(accepted)
            result = one.balance()
            self.assertEqual(result[0], two.balance()[0])
            zeros = dict.fromkeys(range(len(web)), 0)
            self.assertTrue(is_reach(two.web(), two.gains(), zeros, renamed.result(result), fixed=two.fixed()))


if __name__ == "__main__":
    unittest.main()
