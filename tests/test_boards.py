"""The operations of a board one by one, and undoing them: point [23]."""

import copy
import inspect
import unittest

from tests.samples import (
    Hostile, check_order, check_raises, check_raises_count, no_fixed, no_integers, no_residues, no_rows,
    numbers_outside,
)
from turnedties.boards import Board
from turnedties.errors import (
    Fixed, InvalidAmount, InvalidFixed, InvalidGains, InvalidModulus, InvalidNode, InvalidPotential, NoEdge, NotFixed,
    NothingToUndo, TooMany,
)
from turnedties.webs import Web


def ring(modulus=6):
    """A ring of three nodes with a loop at node 1."""
    return Web(3, [(0, 1), (1, 2), (2, 0), (1, 1)], modulus=modulus)


def ring_board(modulus=6, fixed=()):
    return Board(ring(modulus), [1, 2, 3, 4], fixed=fixed)


def state_of(board):
    """All that a board tells of itself, copied."""
    return copy.deepcopy((board.web(), board.gains(), board.fixed(), board.log(), len(board)))


def check_refused(case, board, error, value, action):
    """Check that the action raises exactly this error with the very value, and that nothing changes."""
    before = state_of(board)
    check_raises(case, error, value, action)
    case.assertEqual(before, state_of(board))


def check_done(case, board, result, found, gains, entry):
    """Check what an operation returned, the gains behind it, its entry in the log, and that it can be undone."""
    case.assertEqual(result, found)
    case.assertEqual(gains, board.gains())
    case.assertEqual([entry], board.log()[-1:])
    undone = board.twin()
    undone.undo()
    case.assertEqual(board.log()[:-1], undone.log())


class Examples(unittest.TestCase):
    def test_together(self):
        board = Board(Web(2, [(0, 1)], modulus=6), [1])
        results = board.together([("add_edge", 1, 0, 8), ("switch", 0, 3), ("reduce", 3)])
        self.assertEqual([1, None, None], results)
        self.assertEqual([1, 2], board.gains())
        self.assertEqual([3, [0], 1], [board.web().modulus(), board.cycle_sums(), len(board)])

    def test_fixed(self):
        board = Board(Web(2, [(0, 1)], modulus=6), [1], fixed=[0])
        check_raises_count(self, Fixed, 0, lambda: board.switch(0, 1))


class Interface(unittest.TestCase):
    def test_arguments(self):
        self.assertEqual("(web, gains, *, fixed=())", str(inspect.signature(Board)))
        for name, arguments in {
            "switch": "node, amount", "apply": "potential", "set_gain": "number, gain", "fix": "node",
            "release": "node", "add_edge": "tail, head, gain=0", "remove_edge": "number", "add_node": "",
            "reduce": "modulus", "undo": "", "together": "operations", "web": "", "gains": "", "fixed": "", "log": "",
            "cycle_sums": "", "balance": "", "transform": "after", "twin": "", "__len__": "", "__eq__": "other",
        }.items():
            self.assertIn(name, vars(Board))
            expected = f"(self, {arguments})" if arguments else "(self)"
            self.assertEqual(expected, str(inspect.signature(vars(Board)[name])))
        self.assertEqual("turnedties.boards", Board.__module__)

    def test_arguments_by_name(self):
        board = Board(web=Web(2, [(0, 1)]), gains=[1], fixed=())
        board.switch(node=0, amount=2)
        board.apply(potential=[1, 0])
        board.set_gain(number=0, gain=7)
        self.assertEqual(1, board.add_edge(tail=1, head=0, gain=3))
        self.assertEqual((1, 0, 3), board.remove_edge(number=1))
        self.assertEqual(2, board.add_node())
        board.fix(node=0)
        board.release(node=0)
        board.reduce(modulus=5)
        self.assertEqual([1], board.together(operations=[("add_edge", 0, 0, 1)]))
        self.assertEqual("cycle", board.transform(after=[2, 2])[0])
        self.assertEqual(10, len(board))


class Created(unittest.TestCase):
    def test_state(self):
        board = Board(ring(), (gains := [1, 2, 3, 4]), fixed=(fixed := [2, 0]))
        self.assertEqual((ring(), [1, 2, 3, 4], [0, 2], [], 0), state_of(board))
        gains[0], fixed[0] = 5, 1
        self.assertEqual((ring(), [1, 2, 3, 4], [0, 2], [], 0), state_of(board))
        self.assertEqual([0, 1, 2], Board(ring(), [1, 2, 3, 4], fixed=(1, 2, 0)).fixed())
        self.assertEqual((Web(1), [], [], [], 0), state_of(Board(Web(1), [])))

    def test_arguments_stay(self):
        gains, fixed = [1, 2, 3, 4], [2, 0]
        board = Board(ring(), gains, fixed=fixed)
        board.switch(1, 1)
        board.set_gain(3, 0)
        board.release(0)
        board.add_edge(0, 0)
        self.assertEqual([[1, 2, 3, 4], [2, 0]], [gains, fixed])

    def test_wrong_arguments(self):
        for modulus in (0, 6):
            good = {"web": ring(modulus), "gains": [1, 2, 3, 4], "fixed": ()}
            check_order(self, Board, good, [("gains", InvalidGains, [1]), ("fixed", InvalidFixed, [3])])
            for wrong in no_rows([1, 2, 3, 4], no_residues(modulus)):
                check_raises(self, InvalidGains, wrong, lambda: Board(ring(modulus), wrong))
            for wrong in no_fixed(3):
                check_raises(self, InvalidFixed, wrong, lambda: Board(ring(modulus), [1, 2, 3, 4], fixed=wrong))


class Switch(unittest.TestCase):
    def test_gains(self):
        board = ring_board()
        check_done(self, board, None, board.switch(0, 2), [3, 2, 1, 4], ("switch", 0, 2))
        check_done(self, board, None, board.switch(1, -1), [4, 1, 1, 4], ("switch", 1, -1))
        check_done(self, board, None, board.switch(2, 6 * 10 ** 59 + 1), [4, 0, 2, 4], ("switch", 2, 6 * 10 ** 59 + 1))
        check_done(self, board, None, board.switch(2, 0), [4, 0, 2, 4], ("switch", 2, 0))
        self.assertEqual(4, len(board))
        board = ring_board(0)
        gains = [1 - 10 ** 60, 2 + 10 ** 60, 3, 4]
        check_done(self, board, None, board.switch(1, 10 ** 60), gains, ("switch", 1, 10 ** 60))

    def test_wrong_arguments(self):
        for modulus in (0, 6):
            board = ring_board(modulus, [2])
            board.switch(0, 1)
            for node in no_integers() + numbers_outside(0, 2):
                check_refused(self, board, InvalidNode, node, lambda: board.switch(node, Hostile()))
            for amount in no_integers():
                check_refused(self, board, InvalidAmount, amount, lambda: board.switch(0, amount))
                check_refused(self, board, InvalidAmount, amount, lambda: board.switch(2, amount))
            for amount in (0, 1, 6, 10 ** 60):
                check_refused(self, board, Fixed, 2, lambda: board.switch(2, amount))


class Apply(unittest.TestCase):
    def test_gains(self):
        board = ring_board()
        check_done(self, board, None, board.apply([1, 5, 0]), [3, 1, 2, 4], ("apply", [1, 5, 0]))
        board.fix(1)
        check_done(self, board, None, board.apply([2, 0, 2]), [5, 5, 2, 4], ("apply", [2, 0, 2]))
        check_done(self, board, None, board.apply([0, 0, 0]), [5, 5, 2, 4], ("apply", [0, 0, 0]))

    def test_the_log_keeps_a_copy(self):
        board, potential = ring_board(), [1, 5, 0]
        board.apply(potential)
        potential[0] = 4
        self.assertEqual([("apply", [1, 5, 0])], board.log())
        board.log()[0][1][0] = 3
        self.assertEqual([("apply", [1, 5, 0])], board.log())

    def test_wrong_arguments(self):
        for modulus in (0, 6):
            board = ring_board(modulus, [2])
            for wrong in no_rows([1, 2, 0], no_residues(modulus)) + no_rows([1, 2, 3], no_residues(modulus)):
                check_refused(self, board, InvalidPotential, wrong, lambda: board.apply(wrong))

    def test_the_smallest_fixed_node_at_which_it_is_not_0(self):
        board = Board(Web(5, [(0, 1)], modulus=4), [1], fixed=[4, 3, 1])
        for potential, node in (
            ([1, 1, 1, 1, 1], 1), ([0, 3, 0, 0, 0], 1), ([1, 0, 1, 2, 1], 3), ([0, 0, 0, 0, 1], 4),
            ([0, 2, 0, 0, 1], 1),
        ):
            check_refused(self, board, Fixed, node, lambda: board.apply(potential))
        board.apply([1, 0, 1, 0, 0])
        self.assertEqual([2], board.gains())


class SetGain(unittest.TestCase):
    def test_gains(self):
        board = ring_board()
        check_done(self, board, None, board.set_gain(2, 17), [1, 2, 5, 4], ("set_gain", 2, 17))
        check_done(self, board, None, board.set_gain(0, -1), [5, 2, 5, 4], ("set_gain", 0, -1))
        check_done(self, board, None, board.set_gain(3, 0), [5, 2, 5, 0], ("set_gain", 3, 0))
        board = ring_board(0)
        check_done(self, board, None, board.set_gain(3, -10 ** 60), [1, 2, 3, -10 ** 60], ("set_gain", 3, -10 ** 60))

    def test_wrong_arguments(self):
        for modulus in (0, 6):
            board = ring_board(modulus, [0, 1, 2])
            for number in no_integers() + numbers_outside(0, 3):
                check_refused(self, board, NoEdge, number, lambda: board.set_gain(number, Hostile()))
            for gain in no_integers():
                check_refused(self, board, InvalidAmount, gain, lambda: board.set_gain(0, gain))
        board = Board(Web(1), [])
        check_refused(self, board, NoEdge, 0, lambda: board.set_gain(0, 0))


class AddEdge(unittest.TestCase):
    def test_number_and_gain(self):
        board = Board(Web(2, modulus=6), [], fixed=[0, 1])
        check_done(self, board, 0, board.add_edge(1, 0, 8), [2], ("add_edge", 1, 0, 8))
        check_done(self, board, 1, board.add_edge(1, 1, -1), [2, 5], ("add_edge", 1, 1, -1))
        check_done(self, board, 2, board.add_edge(1, 0), [2, 5, 0], ("add_edge", 1, 0, 0))
        self.assertEqual(Web(2, [(1, 0), (1, 1), (1, 0)], modulus=6), board.web())
        self.assertEqual([0, 1], board.fixed())
        board = Board(Web(1), [])
        check_done(self, board, 0, board.add_edge(0, 0, -10 ** 60), [-10 ** 60], ("add_edge", 0, 0, -10 ** 60))

    def test_wrong_arguments(self):
        for count in (1, 60):
            board = Board(Web(2, [(0, 1)] * count, modulus=6), [1] * count)
            for node in no_integers() + numbers_outside(0, 1):
                check_refused(self, board, InvalidNode, node, lambda: board.add_edge(node, Hostile(), Hostile()))
                check_refused(self, board, InvalidNode, node, lambda: board.add_edge(1, node, Hostile()))
                check_refused(self, board, InvalidNode, node, lambda: board.add_edge(node, 1))
            for gain in no_integers():
                check_refused(self, board, InvalidAmount, gain, lambda: board.add_edge(0, 1, gain))

    def test_sixty_edges(self):
        board = Board(Web(2, [(0, 1)] * 59, modulus=6), [1] * 59)
        self.assertEqual(59, board.add_edge(1, 0, 5))
        for more in ((), (3,)):
            before = state_of(board)
            check_raises_count(self, TooMany, 61, lambda: board.add_edge(1, 0, *more))
            self.assertEqual(before, state_of(board))
        self.assertEqual((0, 1, 1), board.remove_edge(0))
        self.assertEqual(59, board.add_edge(0, 0))


class RemoveEdge(unittest.TestCase):
    def test_numbers_of_later_edges(self):
        board = ring_board(fixed=[0])
        check_done(self, board, (1, 2, 2), board.remove_edge(1), [1, 3, 4], ("remove_edge", 1))
        self.assertEqual([(0, 1), (2, 0), (1, 1)], board.web().edges())
        check_done(self, board, (2, 0, 3), board.remove_edge(1), [1, 4], ("remove_edge", 1))
        check_done(self, board, (1, 1, 4), board.remove_edge(1), [1], ("remove_edge", 1))
        check_done(self, board, (0, 1, 1), board.remove_edge(0), [], ("remove_edge", 0))
        self.assertEqual([Web(3, modulus=6), [0]], [board.web(), board.fixed()])
        check_refused(self, board, NoEdge, 0, lambda: board.remove_edge(0))
        for count in range(4, 0, -1):
            board.undo()
        self.assertEqual((ring(), [1, 2, 3, 4], [0], [], 0), state_of(board))

    def test_wrong_arguments(self):
        board = ring_board()
        for number in no_integers() + numbers_outside(0, 3):
            check_refused(self, board, NoEdge, number, lambda: board.remove_edge(number))
        board.remove_edge(0)
        check_refused(self, board, NoEdge, 3, lambda: board.remove_edge(3))


class AddNode(unittest.TestCase):
    def test_the_new_node(self):
        board = ring_board(fixed=[2])
        check_done(self, board, 3, board.add_node(), [1, 2, 3, 4], ("add_node",))
        check_done(self, board, 4, board.add_node(), [1, 2, 3, 4], ("add_node",))
        self.assertEqual([5, ring().edges(), 6], [board.web().size(), board.web().edges(), board.web().modulus()])
        self.assertEqual([2], board.fixed())
        board.fix(4)
        self.assertEqual(4, board.add_edge(4, 3, 1))
        self.assertEqual([2, 4], board.fixed())

    def test_thirty_nodes(self):
        board = Board(Web(29), [])
        self.assertEqual(29, board.add_node())
        before = state_of(board)
        check_raises_count(self, TooMany, 31, board.add_node)
        self.assertEqual(before, state_of(board))
        board.undo()
        self.assertEqual(29, board.add_node())


class FixAndRelease(unittest.TestCase):
    def test_fixed_nodes(self):
        board = ring_board(fixed=[1])
        check_done(self, board, None, board.fix(2), [1, 2, 3, 4], ("fix", 2))
        check_done(self, board, None, board.fix(0), [1, 2, 3, 4], ("fix", 0))
        self.assertEqual([0, 1, 2], board.fixed())
        check_done(self, board, None, board.release(1), [1, 2, 3, 4], ("release", 1))
        self.assertEqual([0, 2], board.fixed())
        board.switch(1, 1)
        check_refused(self, board, Fixed, 0, lambda: board.switch(0, 1))
        board.release(0)
        board.switch(0, 1)
        self.assertEqual([2], board.fixed())

    def test_wrong_arguments(self):
        board = ring_board(fixed=[1])
        for node in no_integers() + numbers_outside(0, 2):
            check_refused(self, board, InvalidNode, node, lambda: board.fix(node))
            check_refused(self, board, InvalidNode, node, lambda: board.release(node))
        check_refused(self, board, Fixed, 1, lambda: board.fix(1))
        check_refused(self, board, NotFixed, 0, lambda: board.release(0))
        board.release(1)
        check_refused(self, board, NotFixed, 1, lambda: board.release(1))


class Reduce(unittest.TestCase):
    def test_every_divisor(self):
        for modulus in [0] + list(range(2, 61)):
            gains = [1, 2, 3, -10 ** 60] if modulus == 0 else [1 % modulus, modulus - 1, 0, modulus // 2]
            for number in range(2, 61):
                board = Board(ring(modulus), gains, fixed=[1])
                if modulus % number == 0:
                    expected = [gain % number for gain in gains]
                    check_done(self, board, None, board.reduce(number), expected, ("reduce", number))
                    self.assertEqual([ring(number), [1]], [board.web(), board.fixed()])
                    board.undo()
                else:
                    check_refused(self, board, InvalidModulus, number, lambda: board.reduce(number))
                self.assertEqual((ring(modulus), gains, [1], [], 0), state_of(board))

    def test_any_value(self):
        for modulus in (0, 2, 12, 60):
            board = Board(ring(modulus), [1, 0, 1, 0])
            for number in no_integers() + numbers_outside(2, 60) + [0, 1, -2]:
                check_refused(self, board, InvalidModulus, number, lambda: board.reduce(number))

    def test_the_remainders_are_those_of_the_present_modulus(self):
        board = Board(Web(1, [(0, 0)]), [47])
        for modulus, gain in ((60, 47), (30, 17), (6, 5), (6, 5), (2, 1)):
            board.reduce(modulus)
            self.assertEqual([[gain], modulus], [board.gains(), board.web().modulus()])
        check_refused(self, board, InvalidModulus, 6, lambda: board.reduce(6))
        for gain in (5, 5, 17, 47, 47):
            board.undo()
            self.assertEqual([gain], board.gains())
        self.assertEqual(0, board.web().modulus())


class Undo(unittest.TestCase):
    def check_nothing(self, board):
        before = state_of(board)
        with self.assertRaises(NothingToUndo) as caught:
            board.undo()
        self.assertIs(NothingToUndo, type(caught.exception))
        self.assertEqual(before, state_of(board))

    def test_nothing(self):
        self.check_nothing(ring_board())
        board = ring_board()
        check_raises(self, InvalidNode, None, lambda: board.switch(None, 1))
        self.check_nothing(board)
        board.switch(0, 1)
        self.assertIsNone(board.undo())
        self.check_nothing(board)
        board.switch(0, 1)
        board.undo()
        self.check_nothing(board)

    def test_behind_single_operations_and_other_undos(self):
        board = ring_board(fixed=[2])
        actions = [
            lambda: board.switch(0, 1), lambda: board.apply([1, 2, 0]), lambda: board.set_gain(1, 9), board.add_node,
            lambda: board.add_edge(3, 0), lambda: board.remove_edge(1), lambda: board.fix(3), lambda: board.release(2),
            lambda: board.reduce(3), lambda: board.together([("switch", 0, 1), ("add_node",)]),
            lambda: board.together([]),
        ]
        states = [state_of(board)]
        for count, action in enumerate(actions, 1):
            action()
            self.assertEqual(count, len(board))
            states.append(state_of(board))
        for state in states[-2::-1]:
            self.assertIsNone(board.undo())
            self.assertEqual(state, state_of(board))
        self.check_nothing(board)

    def test_an_undone_operation_leaves_no_trace(self):
        board, other = ring_board(), ring_board()
        for done in (board, other):
            done.switch(0, 1)
        board.set_gain(0, 5)
        board.undo()
        board.add_edge(0, 1)
        board.fix(1)
        board.undo()
        board.undo()
        for done in (board, other):
            done.reduce(2)
        self.assertEqual(state_of(other), state_of(board))
        self.assertEqual([("switch", 0, 1), ("reduce", 2)], board.log())
        for done in (board, other):
            done.undo()
        self.assertEqual(state_of(other), state_of(board))
        for done in (board, other):
            done.undo()
            self.check_nothing(done)

    def test_undo_is_no_entry(self):
        board = ring_board()
        board.switch(0, 1)
        board.switch(1, 1)
        board.undo()
        self.assertEqual([[("switch", 0, 1)], 1], [board.log(), len(board)])
        board.undo()
        self.assertEqual([[], 0], [board.log(), len(board)])


if __name__ == "__main__":
    unittest.main()
