"""Crews that carry out a cheapest potential by unit switches: point [28], and [4] (h) and (i)."""

import copy
import inspect
import random
import time
import unittest

from tests.models import PlainCrew
from tests.oracles import moved, reduced
from tests.renamed import Renamed
from tests.samples import (
    Agreeing, Hostile, check_each_value, check_order, check_raises, looped_list, no_fixed, no_integers, no_residues,
    no_rows, numbers_outside, random_fixed, random_webs,
)
from turnedties.costs import cheapest
from turnedties.crews import Crew
from turnedties.equivalence import is_transform
from turnedties.errors import InvalidFixed, InvalidGains, InvalidHands, NoHand, Unreachable
from turnedties.webs import Web


def ring():
    return Web(3, [(0, 1), (1, 2), (2, 0)], modulus=5)


def ring_crew():
    """A crew that has to switch node 0 by 2 and node 2 by -1."""
    return Crew(ring(), [1, 2, 3], [3, 3, 0], [[2], [0, 1]])


def state_of(crew):
    """All that a crew tells of itself, copied."""
    return copy.deepcopy((crew.gains(), crew.rest(), crew.left(), crew.done(), crew.log(), len(crew)))


def tasks(count, seed):
    """Webs with gains before and after, fixed nodes, and hands that share the nodes."""
    source = random.Random(seed)
    for web in random_webs(count, seed):
        low, high = (-4, 4) if web.modulus() == 0 else (0, web.modulus() - 1)
        before = [source.randint(low, high) for edge in web.edges()]
        potential = [source.randint(low, high) for node in range(web.size())]
        fixed = random_fixed(source, web) if source.random() < 0.4 else ()
        for node in fixed:
            potential[node] = 0
        after = moved(web, before, potential)
        yield source, web, before, after, fixed, shared(source, web, cheapest(web, before, after, fixed=fixed)[1])


def shared(source, web, potential):
    """One to eight hands that share the nodes, but for some at which the potential is 0."""
    hands = [[] for hand in range(source.randint(1, 8))]
    for node in source.sample(range(web.size()), web.size()):
        if potential[node] != 0 or source.random() < 0.7:
            source.choice(hands).append(node)
    return source.choice([list, tuple])(hands)


class Examples(unittest.TestCase):
    def test_the_ring(self):
        crew = ring_crew()
        self.assertEqual([(0, 1), (2, -1), (0, 1), None, None], crew.run([1, 0, 1, 0, 1]))
        self.assertEqual([3, 3, 0], crew.gains())
        self.assertIs(True, crew.done())
        self.assertEqual([(1, 0, 1), (0, 2, -1), (1, 0, 1)], crew.log())


class Interface(unittest.TestCase):
    def test_arguments(self):
        self.assertEqual("(web, before, after, hands, *, fixed=())", str(inspect.signature(Crew)))
        for name, arguments in {
            "step": "(self, hand)", "run": "(self, hands)", "gains": "(self)", "rest": "(self)", "left": "(self)",
            "done": "(self)", "log": "(self)", "twin": "(self)", "__len__": "(self)",
        }.items():
            self.assertEqual(arguments, str(inspect.signature(vars(Crew)[name])))
        self.assertEqual("turnedties.crews", Crew.__module__)

    def test_arguments_by_name(self):
        crew = Crew(web=ring(), before=[1, 2, 3], after=[3, 3, 0], hands=([2], [0, 1]), fixed=(1,))
        self.assertEqual((2, -1), crew.step(hand=0))
        self.assertEqual([(0, 1)], crew.run(hands=(1,)))


class Steps(unittest.TestCase):
    def check_like(self, web, after, model, crew):
        """The crew tells what the model tells, and the present gains lead to after by the rest."""
        left = model.left()
        self.assertEqual((model.gains, model.rest, left, left == 0, model.log, len(model.log)), state_of(crew))
        self.assertEqual(after, moved(web, crew.gains(), crew.rest()))

    def test_against_a_model(self):
        for source, web, before, after, fixed, hands in tasks(120, 281):
            word, potential, cost = cheapest(web, before, after, fixed=fixed)
            crew, model = Crew(web, before, after, hands, fixed=fixed), PlainCrew(web, before, potential, hands)
            self.check_like(web, after, model, crew)
            self.assertEqual(cost, crew.left())
            idle = 0
            while not crew.done() or idle < 5:
                hand, left = source.randrange(len(hands)), crew.left()
                expected = model.step(hand)
                if source.random() < 0.5:
                    found = crew.step(hand)
                else:
                    found = crew.run(source.choice([[hand], (hand,)]))
                    self.assertIs(list, type(found))
                    found = found[0]
                self.assertEqual([type(expected), expected], [type(found), found])
                self.assertEqual(left - (expected is not None), crew.left())
                self.check_like(web, after, model, crew)
                idle += crew.done()
            self.assertEqual([cost, cost], [len(crew), len(crew.log())])
            self.assertEqual([after, [0] * web.size()], [crew.gains(), crew.rest()])

    def test_any_order_takes_as_many_switches_as_the_cheapest_cost(self):
        for source, web, before, after, fixed, hands in tasks(100, 282):
            cost = cheapest(web, before, after, fixed=fixed)[2]
            for at in range(3):
                crew = Crew(web, before, after, hands, fixed=fixed)
                orders = [hand for hand in range(len(hands)) for again in range(cost)]
                source.shuffle(orders)
                results = crew.run(orders)
                self.assertEqual(cost, len([result for result in results if result is not None]))
                self.assertEqual((after, [0] * web.size(), 0, True), state_of(crew)[:4])
                self.assertEqual(cost, len(crew))
                for hand, node, amount in crew.log():
                    self.assertIn(node, hands[hand])
                    self.assertNotIn(node, fixed)
                    self.assertIn(amount, (1, -1))

    def test_the_first_node_of_the_list(self):
        web = Web(4, [(0, 1), (1, 2), (2, 3)])
        crew = Crew(web, [0, 0, 0], [1, 0, 3], [[3, 1, 2, 0], []], fixed=[1])
        self.assertEqual([1, 0, 0, -3], crew.rest())
        self.assertEqual([(3, -1), (3, -1), (3, -1), (0, 1), None, None], crew.run([0] * 6))
        crew = Crew(web, [0, 0, 0], [1, 0, 3], [[0, 1, 2, 3]], fixed=[1])
        self.assertEqual([(0, 1), (3, -1), (3, -1), (3, -1), None], crew.run([0] * 5))

    def test_the_amount_for_every_modulus(self):
        for modulus in range(2, 61):
            web = Web(2, [(0, 1)], modulus=modulus)
            for value in range(1, modulus):
                crew = Crew(web, [0], [value], [[0]], fixed=(1,))
                amount = 1 if 2 * value <= modulus else -1
                count = min(value, modulus - value)
                self.assertEqual([[value, 0], count], [crew.rest(), crew.left()])
                self.assertEqual([(0, amount)] * count + [None], crew.run([0] * (count + 1)))
                self.assertEqual([(0, 0, amount)] * count, crew.log())
                self.assertEqual(([value], [0, 0], 0, True), state_of(crew)[:4])

    def test_half_the_modulus_goes_up(self):
        for modulus in range(2, 61, 2):
            crew = Crew(Web(2, [(0, 1)], modulus=modulus), [0], [modulus // 2], [[1], [0]], fixed=[1])
            self.assertEqual((0, 1), crew.step(1))
            self.assertEqual([modulus // 2 - 1, 0], crew.rest())

    def test_great_numbers(self):
        started = time.process_time()
        crew = Crew(Web(2, [(0, 1)]), [0], [10 ** 59], [[0], [1]], fixed=[0])
        self.assertEqual([[0, -10 ** 59], 10 ** 59, False], [crew.rest(), crew.left(), crew.done()])
        self.assertEqual([(1, -1)] * 1000, crew.run([1] * 1000))
        self.assertEqual([[1000], [0, 1000 - 10 ** 59], 10 ** 59 - 1000], [crew.gains(), crew.rest(), crew.left()])
        edges = [(node, (7 * node + 1) % 30) for node in range(30)] * 2
        web, potential = Web(30, edges), [0] + [(-1) ** node * 10 ** 58 for node in range(29)]
        crew = Crew(web, [0] * 60, moved(web, [0] * 60, potential), [list(range(30))])
        self.assertNotIn(None, crew.run([0] * 1000))
        self.assertEqual(moved(web, [0] * 60, potential), moved(web, crew.gains(), crew.rest()))
        self.assertLess(time.process_time() - started, 5)

    def test_nothing_to_do(self):
        for web, gains, hands in ((Web(1), [], [[]]), (ring(), [1, 2, 3], [[], []]), (ring(), [0, 0, 0], ([2, 1, 0],))):
            crew = Crew(web, gains, list(gains), hands)
            self.assertEqual((gains, [0] * web.size(), 0, True, [], 0), state_of(crew))
            self.assertIsNone(crew.step(0))
            self.assertEqual([None, None], crew.run((0, 0)))
            self.assertEqual((gains, [0] * web.size(), 0, True, [], 0), state_of(crew))
        self.assertEqual([], ring_crew().run([]))
        self.assertEqual([], ring_crew().run(()))

    def test_what_is_returned_is_new(self):
        crew = ring_crew()
        crew.run([1, 0])
        before = state_of(crew)
        for rows in (crew.gains(), crew.rest(), crew.log(), crew.run([]), crew.twin().log()):
            rows.append(9)
        self.assertEqual(before, state_of(crew))
        old = crew.gains(), crew.rest(), crew.log()
        kept = [list(rows) for rows in old]
        crew.step(1)
        self.assertEqual(kept, list(old))

    def test_changed_arguments_have_no_effect(self):
        before, after, hands, fixed = [1, 2, 3], [3, 3, 0], [[2], [0, 1]], [1]
        crew, other = [Crew(ring(), before, after, hands, fixed=fixed) for at in range(2)]
        orders = [1]
        self.assertEqual([(0, 1)], crew.run(orders))
        self.assertEqual([[1, 2, 3], [3, 3, 0], [[2], [0, 1]], [1]], [before, after, hands, fixed])
        kept = state_of(other)
        before[0], after[0], hands[0][0] = 0, 0, 1
        hands[1].clear()
        hands.clear()
        fixed[0] = 0
        orders[0] = 0
        self.assertEqual(kept, state_of(other))
        self.assertEqual((0, 1), other.step(1))
        for one in (crew, crew.twin(), other):
            self.assertEqual([(2, -1), (0, 1), None, None], one.run([0, 1, 0, 1]))
            self.assertEqual(([3, 3, 0], [0, 0, 0], 0, True), state_of(one)[:4])


class Twins(unittest.TestCase):
    def test_independent(self):
        crew = ring_crew()
        crew.step(1)
        twin, before = crew.twin(), state_of(crew)
        self.assertIs(Crew, type(twin))
        self.assertEqual(before, state_of(twin))
        self.assertEqual([(2, -1), (0, 1)], twin.run([0, 1]))
        self.assertEqual(before, state_of(crew))
        self.assertEqual([(1, 0, 1), (0, 2, -1), (1, 0, 1)], twin.log())
        third = twin.twin()
        self.assertEqual([None, None], third.run([0, 1]))
        self.assertEqual(state_of(twin), state_of(third))
        self.assertEqual([(0, 1), (2, -1)], crew.run([1, 0]))
        self.assertEqual([3, True], [len(crew), crew.done()])

    def test_twins_do_the_same(self):
        for source, web, before, after, fixed, hands in tasks(30, 283):
            crew = Crew(web, before, after, hands, fixed=fixed)
            while not crew.done():
                twin, hand = crew.twin(), source.randrange(len(hands))
                self.assertEqual(crew.step(hand), twin.step(hand))
                self.assertEqual(state_of(crew), state_of(twin))
                crew = source.choice([crew, twin])
            self.assertEqual(after, crew.gains())


class NoHands(unittest.TestCase):
    def test_step(self):
        crew = ring_crew()
        before = state_of(crew)
        for hand in no_integers() + numbers_outside(0, 1):
            check_raises(self, NoHand, hand, lambda: crew.step(hand))
            self.assertEqual(before, state_of(crew))

    def test_no_list_or_tuple(self):
        crew = ring_crew()
        before = state_of(crew)
        wrong = [thing for thing in no_integers() if not isinstance(thing, (list, tuple))]
        for hands in wrong + [0, 1, "01", {0}, b"\x00"]:
            check_raises(self, NoHand, hands, lambda: crew.run(hands))
            self.assertEqual(before, state_of(crew))

    def test_the_steps_before_an_entry_remain_done(self):
        for kind in (list, tuple):
            for entry in no_integers() + numbers_outside(0, 1):
                crew = ring_crew()
                check_raises(self, NoHand, entry, lambda: crew.run(kind([1, 0, 0, entry, 1, None])))
                self.assertEqual(([2, 3, 1], [1, 0, 0], 1, False, [(1, 0, 1), (0, 2, -1)], 2), state_of(crew))
                self.assertEqual([(0, 1)], crew.run(kind([1])))
                check_raises(self, NoHand, entry, lambda: crew.run(kind([entry])))
                self.assertIs(True, crew.done())


class WrongArguments(unittest.TestCase):
    def good(self, **more):
        return {"web": ring(), "before": [1, 2, 3], "after": [3, 3, 0], "hands": [[2], [0, 1]], "fixed": (), **more}

    def test_which_exception_comes_first(self):
        faults = [
            ("before", InvalidGains, [1]), ("after", InvalidGains, [1, 2, 5]), ("hands", InvalidHands, []),
            ("fixed", InvalidFixed, [0, 0]),
        ]
        check_order(self, Crew, self.good(), faults)
        # Hands that cannot share the work are looked at last.
        check_order(self, Crew, self.good(hands=[[0], [0]]), faults[:2] + faults[3:])

    def test_any_value(self):
        check_each_value(self, Crew, self.good(), "before", InvalidGains, no_rows([1, 2, 3], no_residues(5)))
        check_each_value(self, Crew, self.good(), "after", InvalidGains, no_rows([1, 2, 3], no_residues(5)))
        check_each_value(self, Crew, self.good(), "fixed", InvalidFixed, no_fixed(3))
        check_each_value(self, Crew, self.good(hands=[[0, 1, 2], [0]]), "fixed", InvalidFixed, no_fixed(3))

    def test_hands(self):
        wrong = [hands for hands in no_integers() if not (isinstance(hands, list) and hands == [[]])]
        wrong += [0, 2, "0", [], (), [[]] * 9, ([0, 1, 2],) + ([],) * 8, [0, 1, 2], [(0, 1, 2)], [{0, 1, 2}]]
        wrong += [[[0, 1, 2], None], [[0, 1, 2], ()], [[0, 1, 2, 0]], [[0, 1], [2, 2]], looped_list(), Agreeing()]
        wrong += [[[0, 1, entry]] for entry in no_integers() + numbers_outside(0, 2)]
        check_each_value(self, Crew, self.good(), "hands", InvalidHands, wrong)
        check_each_value(self, Crew, self.good(after=[0, 0, 0]), "hands", InvalidHands, wrong)

    def test_unreachable(self):
        for after, fixed in (([0, 0, 0], ()), ([3, 3, 0], [0, 1]), ([3, 3, 1], (2, 0)), ([0, 0, 0], [1])):
            for hands in ([[2], [0, 1]], [[0, 1], [1, 2]], [[]], ([0], [1])):
                expected = cheapest(ring(), [1, 2, 3], after, fixed=fixed)
                with self.assertRaises(Unreachable) as caught:
                    Crew(ring(), [1, 2, 3], after, hands, fixed=fixed)
                self.assertIs(Unreachable, type(caught.exception))
                self.assertEqual(expected, caught.exception.value)
                self.assertIs(tuple, type(caught.exception.value))
                self.assertTrue(is_transform(ring(), [1, 2, 3], after, caught.exception.value, fixed=fixed))

    def test_hands_that_cannot_share_the_work(self):
        wrong = [
            [[0, 2], [0]], [[2], [0], [1, 2]], ([0, 1, 2], [1]), [[0, 2], [1], [1]], [[0, 2]] * 2, [[0], [1]], [[2]],
            [[]], [[1]], ([], [0, 1]), [[0]] + [[]] * 7,
        ]
        check_each_value(self, Crew, self.good(), "hands", InvalidHands, wrong)
        for hands in ([[0], [2]], [[2, 0], []], ([0], [1], [2]), [[1, 0], [2]], [[0, 2]]):
            self.assertEqual(3, Crew(**self.good(hands=hands)).left())
        # A node in two hands is refused also where there is nothing to do, a node in none is not.
        nothing = self.good(after=[1, 2, 3])
        check_each_value(self, Crew, nothing, "hands", InvalidHands, [[[0], [0]], [[1, 0], [2], [1]]])
        self.assertIs(True, Crew(**{**nothing, "hands": [[]]}).done())

    def test_a_fixed_node_belongs_to_any_hand_or_none(self):
        for hands in ([[0, 2]], [[0, 1, 2]], [[0], [2], [1]]):
            self.assertEqual([2, 0, 4], Crew(**self.good(hands=hands, fixed=[1])).rest())


class Translated(unittest.TestCase):
    def test_renumbered_nodes_and_edges(self):
        for source, web, before, after, fixed, hands in tasks(80, 284):
            # All nodes are in some hand, so a tie that is broken otherwise does no harm.
            hands = [list(range(source.randrange(2), web.size(), 2))]
            hands.append([node for node in range(web.size()) if node not in hands[0]])
            renamed = Renamed(source, web)
            one = Crew(web, before, after, hands, fixed=fixed)
            two = Crew(
                renamed.other, renamed.gains(before), renamed.gains(after), [renamed.some(hand) for hand in hands],
                fixed=renamed.some(fixed),
            )
            self.assertEqual(one.left(), two.left())
            while not one.done():
                one.run([0, 1])
            while not two.done():
                two.run([1, 0])
            self.assertEqual([len(one), renamed.gains(one.gains())], [len(two), two.gains()])

    def test_negated_gains(self):
        for source, web, before, after, fixed, hands in tasks(80, 285):
            rows = [[reduced(web, -gain) for gain in gains] for gains in (before, after)]
            hands = [list(range(web.size()))]
            one, two = Crew(web, before, after, hands, fixed=fixed), Crew(web, *rows, hands, fixed=fixed)
            self.assertEqual(one.left(), two.left())
            count = one.left()
            for crew in (one, two):
                self.assertNotIn(None, crew.run([0] * count))
            self.assertEqual([rows[1], True], [two.gains(), two.done()])


if __name__ == "__main__":
    unittest.main()
