"""Operations of a board that are performed together: point [23]."""

import unittest

from tests.samples import Agreeing, Hostile, check_raises, check_raises_count, looped_list, no_integers
from tests.test_boards import check_refused, ring, ring_board, state_of
from turnedties.boards import Board
from turnedties.errors import (
    Fixed, InvalidAmount, InvalidModulus, InvalidNode, InvalidOperation, InvalidPotential, NoEdge, NotFixed,
    NothingToUndo, TooMany,
)
from turnedties.webs import Web


def no_operations():
    """Values that are no tuples of the name of an operation and all its arguments."""
    wrong = no_integers() + [0, 7, (), ("",), ["add_node"], ["switch", 0, 1], "add_node", {"add_node": ()}]
    wrong += [("together", []), ("together", [("add_node",)]), ("undo",), ("together",), ("web",), ("log",), ("twin",)]
    wrong += [("gains",), ("balance",), ("transform", [1, 2, 3, 4]), ("len",), ("__len__",), ("perform", ("add_node",))]
    wrong += [("Switch", 0, 1), ("switch ", 0, 1), ("add-node",), (b"add_node",), (None,), (True, 0, 1), (0, 1)]
    wrong += [(Hostile(),), (Agreeing(), 0), (("add_node",),), (["add_node"],), ({},), (looped_list(),), (len, 0)]
    wrong += [("keep", 0, 1), ("setgain", 0, 1), ("state",), ("set", 0, 1), ("edge", 0, 1, 2), ("node",), ("remove", 0)]
    arguments = {
        "switch": (0, 1), "apply": ([0, 0, 0],), "set_gain": (0, 1), "add_edge": (0, 1, 0), "remove_edge": (0,),
        "add_node": (), "fix": (0,), "release": (0,), "reduce": (2,),
    }
    for name, good in arguments.items():
        for count in range(5):
            if count != len(good):
                wrong.append((name, *(good + (0, 0, 0, 0))[:count]))
                wrong.append((name, *[Hostile()] * count))
        wrong += [[name, *good], (name, *good, ())]
        if len(good) != 1:
            wrong += [(name, good), (name, list(good))]
    return wrong


class Results(unittest.TestCase):
    def test_results_in_order(self):
        board = ring_board(fixed=[2])
        results = board.together([
            ("switch", 0, 1), ("apply", [1, 0, 0]), ("add_node",), ("add_edge", 3, 0, 7), ("remove_edge", 1),
            ("set_gain", 0, 8), ("fix", 3), ("release", 2), ("reduce", 3),
        ])
        self.assertEqual([None, None, 3, 4, (1, 2, 2), None, None, None, None], results)
        self.assertIs(list, type(results))
        self.assertEqual(Web(4, [(0, 1), (2, 0), (1, 1), (3, 0)], modulus=3), board.web())
        self.assertEqual([[2, 1, 1, 1], [3]], [board.gains(), board.fixed()])

    def test_each_operation_as_if_it_stood_alone(self):
        operations = [
            ("switch", 0, 10 ** 60), ("apply", [1, 2, 3]), ("set_gain", 2, -1), ("add_edge", 0, 2, 0), ("add_node",),
            ("fix", 3), ("remove_edge", 0), ("release", 3), ("reduce", 2), ("reduce", 2),
        ]
        for count in range(len(operations) + 1):
            one, two, three = ring_board(), ring_board(), ring_board()
            expected = [getattr(one, name)(*arguments) for name, *arguments in operations[:count]]
            self.assertEqual(expected, two.together(operations[:count]))
            self.assertEqual(expected, three.together(tuple(operations[:count])))
            self.assertEqual(one, two)
            self.assertEqual(one, three)
            self.assertEqual([count, 1, 1], [len(one), len(two), len(three)])
            self.assertEqual([("together", one.log())], two.log())
            self.assertEqual(two.log(), three.log())
            self.assertIs(list, type(three.log()[0][1]))

    def test_an_empty_list_is_an_operation(self):
        for kind in (list, tuple):
            board = ring_board()
            self.assertEqual([], board.together(kind()))
            self.assertEqual([[("together", [])], 1], [board.log(), len(board)])
            self.assertIsNone(board.undo())
            self.assertEqual((ring(), [1, 2, 3, 4], [], [], 0), state_of(board))

    def test_undone_together(self):
        board = ring_board()
        board.switch(0, 1)
        before = state_of(board)
        board.together([("switch", 1, 1), ("add_node",), ("reduce", 2), ("fix", 3)])
        self.assertEqual([2, [3]], [len(board), board.fixed()])
        board.undo()
        self.assertEqual(before, state_of(board))
        board.undo()
        self.assertRaises(NothingToUndo, board.undo)

    def test_values_that_are_changed_later(self):
        board, potential = ring_board(), [1, 0, 0]
        operations = [("apply", potential), ("switch", 0, 1)]
        results = board.together(operations)
        expected = [("together", [("apply", [1, 0, 0]), ("switch", 0, 1)])]
        potential[0] = 5
        operations.pop()
        results.append(7)
        self.assertEqual(expected, board.log())
        log = board.log()
        log[0][1][0][1].append(9)
        log[0][1].append(9)
        log.append(9)
        self.assertEqual(expected, board.log())
        twin = board.twin()
        twin.log()[0][1].clear()
        self.assertEqual([expected, expected], [board.log(), twin.log()])

    def test_arguments_stay(self):
        operations = [("apply", [1, 0, 0]), ("add_edge", 0, 1, 9)]
        ring_board().together(operations)
        self.assertEqual([("apply", [1, 0, 0]), ("add_edge", 0, 1, 9)], operations)

    def test_a_later_operation_sees_what_earlier_ones_did(self):
        board = ring_board(fixed=[0])
        self.assertEqual(
            [3, 4, None, (3, 3, 5), None, None],
            board.together([
                ("add_node",), ("add_edge", 3, 3, 5), ("fix", 3), ("remove_edge", 4), ("release", 0), ("switch", 0, 1),
            ]),
        )
        check_refused(self, board, NoEdge, 4, lambda: board.together([("set_gain", 4, 1)]))
        check_refused(self, board, Fixed, 3, lambda: board.together([("release", 3), ("fix", 3), ("switch", 3, 1)]))
        check_refused(self, board, InvalidNode, 4, lambda: board.together([("switch", 4, 1), ("add_node",)]))
        check_refused(
            self, board, InvalidModulus, 4, lambda: board.together([("reduce", 2), ("reduce", 4)]),
        )


class Refused(unittest.TestCase):
    EARLIER = [
        ("switch", 0, 1), ("add_node",), ("add_edge", 3, 0, 1), ("fix", 3), ("remove_edge", 0), ("set_gain", 0, 5),
        ("release", 2), ("apply", [1, 0, 1, 0]), ("reduce", 2),
    ]

    def test_no_list_or_tuple(self):
        board = ring_board()
        wrong = [thing for thing in no_integers() if not isinstance(thing, (list, tuple))]
        for thing in wrong + [0, "add_node", {("add_node",)}, {("add_node",): 1}]:
            check_refused(self, board, InvalidOperation, thing, lambda: board.together(thing))

    def test_an_entry_that_is_no_operation(self):
        board = ring_board(fixed=[2])
        board.switch(0, 1)
        for entry in no_operations():
            for operations in ([entry], (entry,), self.EARLIER + [entry], [("add_node",), entry, None]):
                check_refused(self, board, InvalidOperation, entry, lambda: board.together(operations))

    def test_an_omitted_default(self):
        board, entry = ring_board(), ("add_edge", 0, 1)
        check_refused(self, board, InvalidOperation, entry, lambda: board.together([entry]))
        self.assertEqual([4], board.together([("add_edge", 0, 1, 0)]))

    def test_when_its_turn_comes(self):
        board = ring_board(fixed=[2])
        check_refused(self, board, Fixed, 2, lambda: board.together([("switch", 2, 1), None]))
        operations = [("switch", 1, 1), None, ("switch", 2, 1)]
        check_refused(self, board, InvalidOperation, None, lambda: board.together(operations))

    def test_an_operation_that_fails_behind_others(self):
        board = ring_board(fixed=[2])
        board.set_gain(0, 2)
        wrong, short = Hostile(), [1, 1]
        for entry, error, value in (
            (("switch", wrong, 1), InvalidNode, wrong), (("switch", 0, wrong), InvalidAmount, wrong),
            (("switch", 3, 0), Fixed, 3), (("apply", short), InvalidPotential, short),
            (("apply", wrong), InvalidPotential, wrong), (("apply", [0, 0, 0, 1]), Fixed, 3),
            (("set_gain", 4, wrong), NoEdge, 4), (("set_gain", 3, wrong), InvalidAmount, wrong),
            (("add_edge", 4, wrong, wrong), InvalidNode, 4), (("add_edge", 3, wrong, wrong), InvalidNode, wrong),
            (("add_edge", 3, 0, wrong), InvalidAmount, wrong), (("remove_edge", 4), NoEdge, 4), (("fix", 3), Fixed, 3),
            (("fix", wrong), InvalidNode, wrong), (("release", 2), NotFixed, 2), (("release", None), InvalidNode, None),
            (("reduce", 3), InvalidModulus, 3), (("reduce", wrong), InvalidModulus, wrong),
        ):
            for operations in (self.EARLIER + [entry], tuple(self.EARLIER) + (entry, wrong)):
                check_refused(self, board, error, value, lambda: board.together(operations))
        board.undo()
        self.assertEqual((ring(), [1, 2, 3, 4], [2], [], 0), state_of(board))

    def test_too_many(self):
        board = Board(Web(29, [(0, 1)] * 59), [0] * 59)
        for operations, count in (
            ([("add_node",)] * 2, 31), ([("add_edge", 0, 0, 1)] * 2, 61),
            ([("add_node",), ("add_edge", 29, 0, 1)] * 2, 31),
        ):
            before = state_of(board)
            check_raises_count(self, TooMany, count, lambda: board.together(operations))
            self.assertEqual(before, state_of(board))
        self.assertEqual([29, 59], board.together([("add_node",), ("add_edge", 29, 29, 1)]))

    def test_the_very_argument_is_the_value(self):
        board, potential = ring_board(), [0, 0, 7]
        check_raises(self, InvalidPotential, potential, lambda: board.together([("apply", potential)]))
        loop = looped_list()
        check_raises(self, InvalidOperation, loop, lambda: board.together(loop))
        check_raises(self, InvalidPotential, loop, lambda: board.together([("apply", loop)]))


if __name__ == "__main__":
    unittest.main()
