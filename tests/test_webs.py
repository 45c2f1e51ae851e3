"""Webs: point [5], and the forest, [6], as point [2] defines it."""

import copy
import inspect
import unittest

from tests.samples import Hostile, check_raises, check_raises_count, no_integers, numbers_outside, random_webs
from turnedties.errors import InvalidEdge, InvalidModulus, InvalidNode, InvalidSize, NoEdge, TooMany
from turnedties.webs import Web, is_closed, is_walk

METHODS = ["size", "modulus", "edges", "edge", "components", "forest", "path", "cycles"]


class Examples(unittest.TestCase):
    def test_repr(self):
        self.assertEqual(
            "Web(3, [(0, 1), (1, 2), (2, 0)], modulus=5)",
            repr(Web(3, [(0, 1), (1, 2), (2, 0)], modulus=5)),
        )
        self.assertEqual("Web(2, [(0, 1)], modulus=5)", repr(Web(2, [(0, 1)], modulus=5)))

    def test_invalid_edge(self):
        entry = (0, 2)
        check_raises(self, InvalidEdge, entry, lambda: Web(2, [(0, 1), entry]))

    def test_forest(self):
        web = Web(4, [(0, 1), (0, 0), (2, 1)])
        self.assertEqual(
            [[[0, 1, 2], [3]], [0, 2], [(0, 1), (2, -1)], None, [[(1, 1)]]],
            [web.components(), web.forest(), web.path(0, 2), web.path(0, 3), web.cycles()],
        )


class Interface(unittest.TestCase):
    def test_arguments(self):
        self.assertEqual("(size, edges=(), *, modulus=0)", str(inspect.signature(Web)))
        self.assertEqual("(self, number)", str(inspect.signature(Web.edge)))
        self.assertEqual("(self, start, finish)", str(inspect.signature(Web.path)))
        for name in ("size", "modulus", "edges", "components", "forest", "cycles"):
            self.assertEqual("(self)", str(inspect.signature(getattr(Web, name))))

    def test_methods_stand_in_the_class_itself(self):
        for name in METHODS + ["__len__", "__eq__", "__repr__"]:
            self.assertIn(name, vars(Web))

    def test_arguments_by_name(self):
        web = Web(size=2, edges=[(0, 1)], modulus=3)
        self.assertEqual(Web(2, [(0, 1)], modulus=3), web)
        self.assertEqual((0, 1), web.edge(number=0))
        self.assertEqual([(0, 1)], web.path(start=0, finish=1))

    def test_modulus_is_passed_by_name_only(self):
        self.assertRaises(TypeError, Web, 2, [], 3)


class WhatIsGiven(unittest.TestCase):
    def test_is_what_is_returned(self):
        for size in (1, 2, 30):
            for edges in ([], [(0, 0)], [(0, size - 1), (size - 1, 0), (0, size - 1)], [(size - 1, 0)] * 60):
                for modulus in [0] + list(range(2, 61)):
                    web = Web(size, edges, modulus=modulus)
                    self.assertEqual(
                        (size, edges, modulus, len(edges)),
                        (web.size(), web.edges(), web.modulus(), len(web)),
                    )
                    self.assertEqual(edges, [web.edge(number) for number in range(len(web))])

    def test_kinds_of_values(self):
        web = Web(3, ((0, 1), (2, 2)), modulus=2)
        self.assertIs(list, type(web.edges()))
        self.assertEqual([tuple, tuple], [type(edge) for edge in web.edges()])
        self.assertIs(tuple, type(web.edge(1)))

    def test_defaults(self):
        for web in (Web(4), Web(4, []), Web(4, ()), Web(4, modulus=0)):
            self.assertEqual((4, [], 0, 0), (web.size(), web.edges(), web.modulus(), len(web)))

    def test_a_web_without_edges_is_a_web(self):
        web = Web(2)
        self.assertEqual([[[0], [1]], [], []], [web.components(), web.forest(), web.cycles()])

    def test_repr(self):
        self.assertEqual("Web(1, [], modulus=0)", repr(Web(1)))
        self.assertEqual("Web(30, [], modulus=60)", repr(Web(30, modulus=60)))
        self.assertEqual("Web(2, [(0, 1), (1, 1)], modulus=0)", repr(Web(2, ((0, 1), (1, 1)))))
        self.assertEqual("Web(2, [(1, 0)], modulus=2)", str(Web(2, ((1, 0),), modulus=2)))
        for web in random_webs(30, 1):
            self.assertEqual(web, eval(repr(web), {"Web": Web}))


class Copies(unittest.TestCase):
    def test_the_edges_are_copied(self):
        edges = [(0, 1), (1, 2), (2, 0)]
        web = Web(3, edges, modulus=5)
        edges.append((0, 0))
        edges[0] = (2, 2)
        del edges[1]
        self.assertEqual([(0, 1), (1, 2), (2, 0)], web.edges())
        self.assertEqual("Web(3, [(0, 1), (1, 2), (2, 0)], modulus=5)", repr(web))

    def test_the_argument_stays(self):
        edges = [(0, 1), (1, 0), (1, 1)]
        web = Web(2, edges)
        web.cycles()
        web.edges().clear()
        self.assertEqual([(0, 1), (1, 0), (1, 1)], edges)

    def test_changing_what_is_returned_changes_nothing(self):
        def answers():
            return [
                web.edges(), web.components(), web.forest(), web.path(0, 2), web.path(1, 1), web.cycles(),
                web.edge(0), len(web), repr(web), web.size(), web.modulus(),
            ]

        web = Web(4, [(0, 1), (1, 2), (2, 0), (1, 1)], modulus=4)
        before = copy.deepcopy(answers())
        for answer in answers():
            if isinstance(answer, list):
                for entry in answer:
                    if isinstance(entry, list):
                        entry.append(7)
                answer.reverse()
                answer.append(9)
        self.assertEqual(before, answers())

    def test_each_call_returns_a_new_list(self):
        web = Web(3, [(0, 1), (1, 0)])
        for name in ("edges", "components", "forest", "cycles"):
            self.assertIsNot(getattr(web, name)(), getattr(web, name)())
        self.assertIsNot(web.components()[0], web.components()[0])
        self.assertIsNot(web.cycles()[0], web.cycles()[0])
        self.assertIsNot(web.path(0, 1), web.path(0, 1))
        self.assertIsNot(web.path(0, 0), web.path(0, 0))


class Equality(unittest.TestCase):
    def test_a_list_and_a_tuple_of_edges_give_equal_webs(self):
        self.assertEqual(Web(3, [(0, 1), (2, 0)], modulus=5), Web(3, ((0, 1), (2, 0)), modulus=5))
        self.assertEqual(Web(3, []), Web(3, ()))

    def test_webs_are_equal_exactly_if_all_is(self):
        webs = [
            Web(2, [(0, 1)], modulus=5), Web(3, [(0, 1)], modulus=5), Web(2, [(1, 0)], modulus=5),
            Web(2, [(0, 1)], modulus=6), Web(2, [(0, 1)]), Web(2, [], modulus=5), Web(2, [(0, 1)] * 2, modulus=5),
            Web(3, [(0, 1), (1, 2)], modulus=5), Web(3, [(1, 2), (0, 1)], modulus=5),
        ]
        twins = [Web(web.size(), web.edges(), modulus=web.modulus()) for web in webs]
        for at, web in enumerate(webs):
            for number, twin in enumerate(twins):
                self.assertIs(at == number, web == twin)
                self.assertIs(at != number, web != twin)

    def test_a_web_is_equal_to_nothing_else(self):
        web = Web(2, [(0, 1)], modulus=5)
        others = no_integers() + [0, 1, 2, 5, [2, [(0, 1)], 5], (2, [(0, 1)], 5), repr(web), [(0, 1)], Web]
        for other in others:
            self.assertIs(False, web == other)
            self.assertIs(True, web != other)
        self.assertIs(False, Web(1) == [])


class WrongArguments(unittest.TestCase):
    def test_size(self):
        for size in no_integers() + numbers_outside(1, 30):
            check_raises(self, InvalidSize, size, lambda: Web(size))

    def test_modulus(self):
        for modulus in no_integers() + numbers_outside(2, 60):
            if not (type(modulus) is int and modulus == 0):
                check_raises(self, InvalidModulus, modulus, lambda: Web(2, [(0, 1)], modulus=modulus))
        for modulus in (1, 61, -1, -2, -60):
            check_raises(self, InvalidModulus, modulus, lambda: Web(2, modulus=modulus))

    def test_edges_that_are_no_list_or_tuple(self):
        for edges in no_integers() + [0, 1, -1, "ab", {(0, 1): 1}, {(0, 1)}, range(0)]:
            if not isinstance(edges, (list, tuple)):
                check_raises(self, InvalidEdge, edges, lambda: Web(2, edges))

    def test_entries_that_are_no_edges(self):
        entries = [entry for entry in no_integers() if not (isinstance(entry, tuple) and entry == (0, 1))]
        entries += [0, 1, (0, 1, 0), (1,), [0, 1], "01", (0, 2), (2, 0), (-1, 0), (0, -1), (0, True), (False, 1)]
        entries += [(0, None), ("0", 1), ((0,), 1), (0, [1]), (0, 10 ** 60), (Hostile(), 0), (0, Hostile())]
        for entry in entries:
            for edges in ([entry], (entry,), [(0, 1), (1, 1), entry], [(0, 1)] * 61 + [entry], [entry] + [(0, 1)] * 61):
                check_raises(self, InvalidEdge, entry, lambda: Web(2, edges))

    def test_the_first_entry_that_is_no_edge(self):
        first, second = (0, 2), [1, 0]
        check_raises(self, InvalidEdge, first, lambda: Web(2, [(0, 1), first, second]))
        check_raises(self, InvalidEdge, second, lambda: Web(2, [(0, 1), second, first]))

    def test_nodes_are_those_of_the_size(self):
        edge = (29, 0)
        self.assertEqual([edge], Web(30, [edge]).edges())
        check_raises(self, InvalidEdge, edge, lambda: Web(29, [edge]))
        loop = (1, 1)
        check_raises(self, InvalidEdge, loop, lambda: Web(1, [loop]))

    def test_too_many(self):
        self.assertEqual(60, len(Web(2, [(0, 1)] * 60)))
        for count in (61, 62, 1000):
            check_raises_count(self, TooMany, count, lambda: Web(2, [(0, 1)] * count))
            check_raises_count(self, TooMany, count, lambda: Web(2, ((0, 1),) * count))

    def test_which_exception_comes_first(self):
        size, entry, modulus = 31, (0, 2), 61
        check_raises(self, InvalidSize, size, lambda: Web(size, [entry], modulus=modulus))
        check_raises(self, InvalidSize, size, lambda: Web(size, None, modulus=modulus))
        check_raises(self, InvalidEdge, entry, lambda: Web(2, [entry] * 61, modulus=modulus))
        check_raises_count(self, TooMany, 61, lambda: Web(2, [(0, 1)] * 61, modulus=modulus))
        check_raises(self, InvalidModulus, modulus, lambda: Web(2, [(0, 1)] * 60, modulus=modulus))

    def test_edge_number(self):
        for count in (0, 1, 3, 60):
            web = Web(2, [(0, 1)] * count)
            for number in no_integers() + numbers_outside(0, count - 1):
                check_raises(self, NoEdge, number, lambda: web.edge(number))

    def test_nodes_of_a_path(self):
        web = Web(3, [(0, 1), (1, 2)])
        for node in no_integers() + numbers_outside(0, 2):
            check_raises(self, InvalidNode, node, lambda: web.path(node, 0))
            check_raises(self, InvalidNode, node, lambda: web.path(0, node))
            check_raises(self, InvalidNode, node, lambda: web.path(node, None))
            check_raises(self, InvalidNode, node, lambda: web.path(node, node))

    def test_a_call_that_raises_changes_nothing(self):
        web = Web(3, [(0, 1), (1, 2)], modulus=7)
        before = [repr(web), web.components(), web.forest(), web.cycles()]
        self.assertRaises(NoEdge, web.edge, 2)
        self.assertRaises(InvalidNode, web.path, 0, 3)
        self.assertEqual(before, [repr(web), web.components(), web.forest(), web.cycles()])


def connected(edges, start):
    """The nodes that edges of any direction connect with start."""
    found = {start}
    for again in edges:
        for tail, head in edges:
            if tail in found or head in found:
                found |= {tail, head}
    return found


class Forest(unittest.TestCase):
    def test_components(self):
        self.assertEqual([[0]], Web(1).components())
        self.assertEqual([[0], [1], [2]], Web(3, [(1, 1)]).components())
        self.assertEqual([[0, 4], [1, 3], [2]], Web(5, [(3, 1), (4, 0), (0, 4)]).components())
        self.assertEqual([list(range(30))], Web(30, [(node, node - 1) for node in range(1, 30)]).components())
        self.assertEqual([[node] for node in range(30)], Web(30).components())
        for web in random_webs(120, 2):
            expected = []
            for node in range(web.size()):
                group = sorted(connected(web.edges(), node))
                if group not in expected:
                    expected.append(group)
            self.assertEqual(expected, web.components())

    def test_forest_takes_the_edges_in_ascending_order(self):
        self.assertEqual([0], Web(2, [(1, 0), (0, 1), (1, 0)]).forest())
        self.assertEqual([1, 2], Web(3, [(0, 0), (2, 1), (1, 0), (0, 2)]).forest())
        self.assertEqual([], Web(1, [(0, 0)] * 60).forest())
        for web in random_webs(120, 3):
            chosen = []
            for number, (tail, head) in enumerate(web.edges()):
                if head not in connected([web.edge(at) for at in chosen], tail):
                    chosen.append(number)
            self.assertEqual(chosen, web.forest())

    def test_path(self):
        web = Web(5, [(1, 0), (1, 2), (2, 0), (3, 2), (4, 4)])
        self.assertEqual([(0, -1), (1, 1), (3, -1)], web.path(0, 3))
        self.assertEqual([(3, 1), (1, -1), (0, 1)], web.path(3, 0))
        self.assertEqual([(3, 1)], web.path(3, 2))
        self.assertIsNone(web.path(4, 0))
        self.assertIsNone(web.path(0, 4))
        for node in range(5):
            self.assertEqual([], web.path(node, node))

    def test_a_long_path(self):
        web = Web(30, [(node, node + 1) for node in range(29)])
        self.assertEqual([(node, 1) for node in range(29)], web.path(0, 29))
        self.assertEqual([(node, -1) for node in reversed(range(29))], web.path(29, 0))

    def test_paths_go_along_the_forest(self):
        for web in random_webs(60, 4):
            forest = web.forest()
            for start in range(web.size()):
                group = connected(web.edges(), start)
                for finish in range(web.size()):
                    path = web.path(start, finish)
                    if finish not in group:
                        self.assertIsNone(path)
                    elif start == finish:
                        self.assertEqual([], path)
                    else:
                        self.check_path(web, forest, path, start, finish)

    def check_path(self, web, forest, path, start, finish):
        self.assertTrue(is_walk(web, path))
        self.assertTrue(all(number in forest for number, way in path))
        self.assertEqual(len(path), len({number for number, way in path}))
        first, last = path[0], path[-1]
        self.assertEqual(start, web.edge(first[0])[0 if first[1] == 1 else 1])
        self.assertEqual(finish, web.edge(last[0])[1 if last[1] == 1 else 0])

    def test_cycles(self):
        self.assertEqual([], Web(3, [(0, 1), (1, 2)]).cycles())
        self.assertEqual([[(1, 1), (0, -1)]], Web(2, [(0, 1), (0, 1)]).cycles())
        self.assertEqual([[(1, 1), (0, 1)]], Web(2, [(0, 1), (1, 0)]).cycles())
        self.assertEqual([[(2, 1), (0, 1), (1, 1)]], Web(3, [(0, 1), (1, 2), (2, 0)]).cycles())
        self.assertEqual([[(2, 1), (1, -1), (0, -1)]], Web(3, [(0, 1), (1, 2), (0, 2)]).cycles())
        self.assertEqual([[(number, 1)] for number in range(60)], Web(1, [(0, 0)] * 60).cycles())

    def test_cycles_are_those_of_the_other_edges(self):
        for web in random_webs(120, 5):
            cycles = web.cycles()
            others = [number for number in range(len(web)) if number not in web.forest()]
            self.assertEqual([(number, 1) for number in others], [cycle[0] for cycle in cycles])
            for cycle in cycles:
                tail, head = web.edge(cycle[0][0])
                self.assertEqual(web.path(head, tail), cycle[1:])
                self.assertTrue(is_closed(web, cycle))


if __name__ == "__main__":
    unittest.main()
