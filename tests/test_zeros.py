"""Gains that are to be 0: point [18]."""

import inspect
import itertools
import random
import unittest

from tests.oracles import plain_sum, small_after, small_gains, small_webs, walk_ends
from tests.samples import (
    Hostile, check_each_value, check_order, looped_list, no_fixed, no_integers, no_residues, no_rows, numbers_outside,
    random_fixed, random_gains, random_webs,
)
from turnedties.errors import InvalidEdges, InvalidFixed, InvalidGains, Unbalanced
from turnedties.targets import is_reach, reach
from turnedties.webs import Web
from turnedties.zeros import balance, blockers


def wheel():
    return Web(3, [(0, 1), (1, 2), (2, 0), (0, 2)], modulus=5)


def can_be_zero(web, gains, numbers):
    """Whether the numbered edges can all be 0 at once."""
    return reach(web, gains, {number: 0 for number in numbers})[0] == "potential"


class Examples(unittest.TestCase):
    def test_balance_and_blockers(self):
        self.assertEqual(("potential", [0, 1, 3]), balance(wheel(), [1, 2, 2, 3]))
        self.assertEqual([2], list(blockers(wheel(), [1, 2, 3, 3], [0, 1])))


class Interface(unittest.TestCase):
    def test_arguments(self):
        self.assertEqual("(web, gains, *, fixed=())", str(inspect.signature(balance)))
        self.assertEqual("(web, gains, edges)", str(inspect.signature(blockers)))

    def test_functions_are_defined_in_the_file(self):
        for function in (balance, blockers):
            self.assertEqual("turnedties.zeros", function.__module__)


class Balance(unittest.TestCase):
    def test_the_same_as_reach_with_0_at_every_edge(self):
        source = random.Random(181)
        words = {"potential": 0, "cycle": 0, "fixed": 0}
        for web in small_webs(300, 181) + random_webs(60, 181):
            zeros = {number: 0 for number in range(len(web))}
            for gains in (random_gains(source, web), small_after(source, web, [0] * len(web))):
                fixed = random_fixed(source, web)
                result = balance(web, gains, fixed=fixed)
                words[result[0]] += 1
                self.assertEqual(reach(web, gains, zeros, fixed=fixed), result)
                self.assertIs(True, is_reach(web, gains, zeros, result, fixed=fixed))
                self.assertEqual(reach(web, gains, zeros), balance(web, gains))
        self.assertGreater(min(words.values()), 20)

    def test_arguments_stay_and_results_are_new(self):
        gains, fixed = [1, 2, 2, 3], [1]
        first = balance(wheel(), gains, fixed=fixed)
        self.assertEqual(("potential", [4, 0, 2]), first)
        first[1].append(7)
        self.assertEqual(("potential", [4, 0, 2]), balance(wheel(), gains, fixed=tuple(fixed)))
        self.assertEqual([[1, 2, 2, 3], [1]], [gains, fixed])

    def test_wrong_arguments(self):
        good = {"web": wheel(), "gains": [1, 2, 2, 3], "fixed": ()}
        check_order(self, balance, good, [("gains", InvalidGains, [1]), ("fixed", InvalidFixed, [3])])
        check_each_value(self, balance, good, "gains", InvalidGains, no_rows([1, 2, 2, 3], no_residues(5)))
        check_each_value(self, balance, good, "fixed", InvalidFixed, no_fixed(3))


class Blockers(unittest.TestCase):
    def check_walk(self, web, gains, numbers, walk):
        start, finish = walk_ends(web, walk)
        self.assertEqual(start, finish)
        self.assertNotEqual(0, plain_sum(web, gains, walk))
        self.assertTrue(all(number in numbers for number, way in walk))

    def check(self, web, gains, edges):
        """Check all that is said of blockers; returns whether the edges can all be 0 at once."""
        kept = [list(gains), list(edges)]
        if not can_be_zero(web, gains, edges):
            with self.assertRaises(Unbalanced) as caught:
                blockers(web, gains, edges)
            self.check_walk(web, gains, edges, caught.exception.value)
            return False
        walks = blockers(web, gains, edges)
        others = [number for number in range(len(web)) if number not in edges]
        expected = [number for number in others if not can_be_zero(web, gains, [*edges, number])]
        self.assertIs(dict, type(walks))
        self.assertEqual(expected, list(walks))
        for number, walk in walks.items():
            self.assertIs(list, type(walk))
            self.assertIn(number, [other for other, way in walk])
            self.check_walk(web, gains, [*edges, number], walk)
        self.assertEqual(walks, blockers(web, gains, list(edges)))
        self.assertEqual(walks, blockers(web, gains, tuple(edges)))
        self.assertEqual(kept, [list(gains), list(edges)])
        return True

    def test_small_webs(self):
        source = random.Random(182)
        seen = {True: 0, False: 0}
        for web in small_webs(150, 182):
            for gains in (small_gains(source, web), small_after(source, web, [0] * len(web))):
                for count in range(len(web) + 1):
                    for edges in itertools.combinations(range(len(web)), count):
                        seen[self.check(web, gains, source.sample(edges, count))] += 1
        self.assertGreater(min(seen.values()), 100)

    def test_great_webs(self):
        source = random.Random(183)
        for web in random_webs(100, 183):
            gains = random_gains(source, web)
            self.check(web, gains, source.sample(web.forest(), source.randint(0, len(web.forest()))))
            self.check(web, gains, tuple(web.forest()))
            self.check(web, [0] * len(web), list(range(len(web))))
            self.check(web, gains, source.sample(range(len(web)), len(web)))

    def test_loops(self):
        web = Web(2, [(0, 0), (0, 1), (1, 1)], modulus=4)
        self.assertEqual([0], list(blockers(web, [3, 1, 0], [])))
        self.assertEqual([0], list(blockers(web, [3, 1, 0], (2, 1))))
        self.assertTrue(self.check(web, [3, 1, 0], [1]))
        self.assertFalse(self.check(web, [3, 1, 0], [1, 0]))

    def test_ends_that_the_edges_do_not_connect(self):
        web = Web(4, [(0, 1), (2, 3), (0, 2), (1, 3)])
        self.assertEqual({}, blockers(web, [1, 2, 3, 4], [0, 1]))
        self.assertEqual([3], list(blockers(web, [1, 2, 3, 5], [0, 1, 2])))
        self.assertEqual({}, blockers(web, [1, 2, 3, 4], [2, 1, 0]))
        self.assertEqual({}, blockers(Web(3), [], []))

    def test_results_are_new(self):
        first = blockers(wheel(), [1, 2, 3, 3], [0, 1])
        kept = {number: list(walk) for number, walk in first.items()}
        first[2].append(7)
        first[3] = []
        self.assertEqual(kept, blockers(wheel(), [1, 2, 3, 3], [0, 1]))

    def test_which_exception_comes_first(self):
        good = {"web": wheel(), "gains": [1, 2, 3, 3], "edges": [0, 1]}
        check_order(self, blockers, good, [("gains", InvalidGains, [1, 2, 3]), ("edges", InvalidEdges, [0, 1, 2, 2])])

    def test_any_value(self):
        good = {"web": wheel(), "gains": [1, 2, 3, 3], "edges": [0, 1]}
        wrong = [thing for thing in no_integers() if not isinstance(thing, (list, tuple))]
        wrong += [0, 1, "01", {0: 1}, {0, 1}, range(2), Hostile(), looped_list()]
        for entry in no_integers() + numbers_outside(0, 3):
            wrong += [[entry], (entry,), [0, entry], (entry, 1), [0, 1, 2, 3, entry]]
        wrong += [[0, 0], (1, 0, 1), [3, 3, 3], [0, 1, 2, 3, 0], list(range(4)) * 20]
        check_each_value(self, blockers, good, "edges", InvalidEdges, wrong)
        check_each_value(self, blockers, good, "gains", InvalidGains, no_rows([1, 2, 3, 3], no_residues(5)))
        good = {"web": Web(2), "gains": [], "edges": []}
        check_each_value(self, blockers, good, "edges", InvalidEdges, [[0], (0,), [-1], None])


if __name__ == "__main__":
    unittest.main()
