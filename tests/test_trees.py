"""Edges that must be left out of a target, and trees: point [19], and point [4] (d)."""

import inspect
import random
import unittest

from tests.oracles import every_potential, moved, plain_sum, small_gains, small_webs, walk_ends
from tests.samples import (
    Agreeing, Hostile, check_each_value, check_order, check_raises, check_raises_count, looped_list, no_integers,
    no_residues, no_rows, numbers_outside, random_gains, shuffled,
)
from turnedties.errors import InvalidGains, InvalidMost, InvalidTarget, TooMany
from turnedties.targets import reach
from turnedties.trees import fewest_left, is_tree
from turnedties.webs import Web


def parallel(count=3):
    return Web(2, [(0, 1)] * count)


def zeros(web):
    return {number: 0 for number in range(len(web))}


def fewest_unmet(web, gains, target):
    """The least number of edges of the target that some potential does not meet."""
    return min(
        sum(after[number] != target[number] for number in target)
        for after in [moved(web, gains, potential) for potential in every_potential(web)]
    )


def tangled_webs(count, seed):
    """Small webs in which often several edges must be left out."""
    source = random.Random(seed)
    for web in small_webs(count, seed):
        size = source.randint(2, 3)
        edges = [(source.randrange(size), source.randrange(size)) for number in range(source.randint(0, 8))]
        yield source, Web(size, edges, modulus=web.modulus())


class Examples(unittest.TestCase):
    def test_fewest_left_and_is_tree(self):
        target = {0: 0, 1: 0, 2: 0}
        self.assertEqual([2], fewest_left(parallel(), [0, 0, 1], target)[0])
        self.assertIsNone(fewest_left(parallel(), [0, 1, 2], target, most=1)[0])
        self.assertIs(True, is_tree(parallel(), [0, 0, 1], target, 0, ([(2, 1), (0, -1)], [])))

    def test_too_many(self):
        check_raises_count(self, TooMany, 13, lambda: fewest_left(Web(13), [], {}))


class Interface(unittest.TestCase):
    def test_arguments(self):
        self.assertEqual("(web, gains, target, *, most=2)", str(inspect.signature(fewest_left)))
        self.assertEqual("(web, gains, target, count, thing)", str(inspect.signature(is_tree)))

    def test_functions_are_defined_in_the_file(self):
        for function in (fewest_left, is_tree):
            self.assertEqual("turnedties.trees", function.__module__)


class FewestLeft(unittest.TestCase):
    def check_tree(self, web, gains, target, count, tree):
        """Check a tree as the document defines it."""
        self.assertIs(tuple, type(tree))
        walk, branches = tree
        start, finish = walk_ends(web, walk)
        self.assertEqual(start, finish)
        self.assertTrue(all(number in target for number, way in walk))
        self.assertNotEqual(plain_sum(web, gains, walk), plain_sum(web, target, walk))
        self.assertIs(list, type(branches))
        numbers = [] if count == 0 else sorted({number for number, way in walk})
        self.assertEqual(len(numbers), len(branches))
        for number, branch in zip(numbers, branches):
            self.check_tree(web, gains, {key: target[key] for key in target if key != number}, count - 1, branch)

    def check(self, web, gains, target, most):
        """Check all that is said of fewest_left; returns the edges."""
        edges, tree = fewest_left(web, gains, target, most=most)
        if edges == []:
            self.assertIsNone(tree)
            self.assertEqual("potential", reach(web, gains, target)[0])
            return edges
        count = most
        if edges is not None:
            count = len(edges) - 1
            self.assertEqual(sorted(set(edges)), edges)
            self.assertLessEqual(len(edges), most)
            self.assertTrue(all(number in target for number in edges))
            rest = {number: target[number] for number in target if number not in edges}
            self.assertEqual("potential", reach(web, gains, rest)[0])
        self.check_tree(web, gains, target, count, tree)
        self.assertIs(True, is_tree(web, gains, target, count, tree))
        for other in range(4):
            if other != count:
                self.assertIs(False, is_tree(web, gains, target, other, tree))
        return edges

    def test_against_all_sets(self):
        counts = {0: 0, 1: 0, 2: 0, 3: 0, None: 0}
        for source, web in tangled_webs(250, 191):
            gains, wanted = small_gains(source, web), small_gains(source, web)
            target = shuffled(source, {n: wanted[n] for n in range(len(web)) if source.random() < 0.9})
            least = fewest_unmet(web, gains, target)
            for most in range(4):
                edges = self.check(web, gains, target, most)
                counts[None if edges is None else len(edges)] += 1
                self.assertEqual(least if least <= most else None, None if edges is None else len(edges))
            self.assertEqual(fewest_left(web, gains, target, most=2), fewest_left(web, gains, target))
        self.assertGreater(min(counts.values()), 20)

    def test_twelve_nodes_and_sixty_edges(self):
        ring = Web(12, [(node, (node + 1) % 12) for node in range(12)] * 5)
        self.assertIsNone(self.check(ring, [1] * 60, zeros(ring), 3))
        self.assertIsNone(self.check(ring, [10 ** 59] * 60, zeros(ring), 2))
        gains = [1] * 12 + [0] * 48
        gains[12:24] = [number for number in range(12)]
        self.assertIsNone(self.check(ring, gains, zeros(ring), 3))
        few = Web(12, [(node, (node + 1) % 12) for node in range(12)] * 3)
        edges = self.check(few, [1] * 36, zeros(few), 3)
        self.assertEqual(3, len(edges))

    def test_random_great_webs(self):
        source = random.Random(192)
        for at in range(60):
            size = source.randint(6, 12)
            pairs = [(source.randrange(size), source.randrange(size)) for number in range(source.randint(0, 60))]
            web = Web(size, pairs, modulus=source.choice([0, 2, 7, 60]))
            gains = moved(web, [0] * len(web), [source.randrange(2) for node in range(size)])
            for number in source.sample(range(len(web)), min(len(web), source.randint(0, 4))):
                gains[number] = random_gains(source, web)[number]
            self.check(web, gains, shuffled(source, zeros(web)), source.randint(0, 3))

    def test_the_order_of_the_dict(self):
        source = random.Random(193)
        web = Web(6, [(source.randrange(6), source.randrange(6)) for number in range(14)], modulus=3)
        gains = random_gains(source, web)
        expected = fewest_left(web, gains, zeros(web), most=3)
        for again in range(5):
            self.assertEqual(expected, fewest_left(web, gains, shuffled(source, zeros(web)), most=3))

    def test_nothing_is_left_out_twice(self):
        web = Web(2, [(0, 0), (1, 1), (0, 1)], modulus=7)
        self.assertEqual([0, 1], self.check(web, [1, 2, 3], zeros(web), 2))
        self.assertIsNone(self.check(web, [1, 2, 3], zeros(web), 1))
        self.assertEqual([1], self.check(web, [1, 2, 3], {2: 0, 1: 0, 0: 1}, 1))
        self.assertEqual([], self.check(web, [1, 2, 3], {}, 0))
        self.assertEqual([], self.check(web, [1, 2, 3], {2: 6}, 3))

    def test_results_are_new_and_arguments_stay(self):
        gains, target = [0, 1, 2], {2: 0, 0: 0, 1: 0}
        first = fewest_left(parallel(), gains, target)
        again = fewest_left(parallel(), gains, target)
        self.assertEqual(again, first)
        first[0].append(9)
        first[1][0].append(9)
        first[1][1].append(9)
        self.assertEqual(again, fewest_left(parallel(), gains, target))
        self.assertEqual([[0, 1, 2], [(2, 0), (0, 0), (1, 0)]], [gains, list(target.items())])

    def test_the_bound_on_the_nodes(self):
        self.assertEqual(([], None), fewest_left(Web(12), [], {}))
        for size in range(13, 31):
            check_raises_count(self, TooMany, size, lambda: fewest_left(Web(size), [], {}, most=0))


class IsTree(unittest.TestCase):
    """Parallel edges with the gains 0, 1, 2 and 3, all of which should be 0: three of them must be left out."""

    GAINS = [0, 1, 2, 3]

    def check(self, expected, count, thing, **others):
        arguments = {"web": parallel(4), "gains": self.GAINS, "target": zeros(parallel(4)), **others}
        self.assertIs(expected, is_tree(**arguments, count=count, thing=thing))

    def leaf(self, one, two):
        return [(one, 1), (two, -1)], []

    def test_walks(self):
        for walk in (
            [(0, 1), (1, -1)], [(1, -1), (0, 1)], [(3, 1), (2, -1)], [(0, 1), (1, -1)] * 3,
            [(0, 1), (0, -1), (2, 1), (3, -1)], [(0, 1), (1, -1), (2, 1), (3, -1)],
        ):
            self.check(True, 0, (walk, []))
        for walk in (
            [], [(0, 1)], [(0, 1), (0, -1)], [(0, 1), (1, 1)], [(0, 1), (1, -1), (2, 1)], [(0, 1), (4, -1)],
            [(0, 1), (1, -1), (1, 1), (0, -1)], [(0, 1), (1, -1), (3, 1), (2, -1)], ((0, 1), (1, -1)), [[0, 1], [1, -1]],
            [(0, 1), (True, -1)],
        ):
            self.check(False, 0, (walk, []))

    def test_counts(self):
        for count in range(1, 4):
            self.check(False, count, self.leaf(0, 1))
        self.check(False, 0, ([(0, 1), (1, -1)], [self.leaf(2, 3), self.leaf(2, 3)]))
        self.check(True, 1, ([(0, 1), (1, -1)], [self.leaf(2, 3), self.leaf(2, 3)]))
        self.check(False, 2, ([(0, 1), (1, -1)], [self.leaf(2, 3), self.leaf(2, 3)]))

    def test_branches(self):
        walk = [(1, 1), (0, -1)]
        good = [self.leaf(1, 2), self.leaf(0, 3)]
        self.check(True, 1, (walk, good))
        self.check(False, 1, (walk, good[::-1]))
        self.check(False, 1, (walk, good[:1]))
        self.check(False, 1, (walk, good + [self.leaf(2, 3)]))
        self.check(False, 1, (walk, []))
        self.check(False, 1, (walk, tuple(good)))
        self.check(False, 1, (walk, dict(enumerate(good))))
        self.check(False, 1, (walk, [good[0], list(good[1])]))
        self.check(False, 1, (walk, [good[0], ([(0, 1), (3, -1)], ())]))
        self.check(False, 1, (walk, [good[0], ([(0, 1), (3, -1)], None)]))

    def test_one_branch_for_each_different_edge(self):
        walk = [(2, 1), (0, -1), (1, 1), (1, -1)]
        good = [self.leaf(1, 2), self.leaf(0, 3), self.leaf(0, 1)]
        self.check(True, 1, (walk, good))
        self.check(False, 1, (walk, good[:2]))
        self.check(False, 1, (walk, [good[0], good[2]]))
        self.check(True, 1, (walk * 5, good))
        self.check(False, 1, (walk * 5, good * 5))

    def test_a_walk_that_uses_an_edge_that_is_left_out_already(self):
        walk = [(0, 1), (1, -1)]
        deep = ([(2, 1), (1, -1)], [self.leaf(2, 3), self.leaf(1, 3)])
        other = ([(2, 1), (3, -1)], [self.leaf(0, 3), self.leaf(0, 2)])
        self.check(True, 2, (walk, [deep, other]))
        self.check(False, 2, (walk, [other, deep]))
        wrong = ([(2, 1), (1, -1)], [self.leaf(2, 3), self.leaf(0, 3)])
        self.check(False, 2, (walk, [wrong, other]))
        wrong = ([(2, 1), (1, -1)], [self.leaf(1, 3), self.leaf(1, 3)])
        self.check(False, 2, (walk, [wrong, other]))

    def test_there_is_no_tree_for_three(self):
        edges, tree = fewest_left(parallel(4), self.GAINS, zeros(parallel(4)), most=3)
        self.assertEqual(3, len(edges))
        self.check(True, 2, tree)
        self.check(False, 3, tree)
        self.check(False, 3, ([(0, 1), (1, -1)], [tree, tree]))

    def test_targets(self):
        task = {"web": Web(2, [(0, 1)] * 3, modulus=3), "gains": [0, 1, 2]}
        self.check(True, 0, self.leaf(0, 1), target={0: 0, 1: 0}, **task)
        self.check(False, 0, self.leaf(0, 2), target={0: 0, 1: 0}, **task)
        self.check(False, 0, self.leaf(0, 1), target={0: 1, 1: 2}, **task)
        self.check(True, 0, self.leaf(0, 1), target={1: 2, 0: 0}, **task)
        self.check(False, 0, self.leaf(0, 1), target={}, **task)

    def test_there_is_no_bound_on_the_nodes(self):
        web = Web(30, [(node, (node + 1) % 30) for node in range(30)] * 2)
        walk = [(number, 1) for number in range(30)]
        self.assertIs(True, is_tree(web, [1] * 60, zeros(web), 0, (walk, [])))
        branches = [([(at + 30 if at == number else at, 1) for at in range(30)], []) for number in range(30)]
        self.assertIs(True, is_tree(web, [1] * 60, zeros(web), 1, (walk, branches)))
        self.assertIs(False, is_tree(web, [1] * 60, zeros(web), 1, (walk, branches[::-1])))

    def test_any_value(self):
        things = no_integers() + [0, 3, ([],), ([], []), ([], [], []), (None, None), looped_list()]
        for rest in no_integers() + [Hostile(), Agreeing(), looped_list()]:
            things += [(rest, rest), (rest, []), ([rest], []), ([(0, 1), rest], []), (rest, [], [])]
            if not (isinstance(rest, list) and len(rest) == 0):
                things += [([(0, 1), (1, -1)], rest), ([(0, 1), (1, -1)], [rest])]
        for count in range(4):
            for thing in things:
                self.check(False, count, thing)
        branches = []
        thing = ([(0, 1), (1, -1)], branches)
        branches += [thing, thing]
        for count in range(4):
            self.check(False, count, thing)


class WrongArguments(unittest.TestCase):
    def good(self, **more):
        return {"web": parallel(), "gains": [0, 0, 1], "target": {0: 0, 1: 0, 2: 0}, **more}

    def test_which_exception_comes_first(self):
        faults = [("gains", InvalidGains, [0, 0]), ("target", InvalidTarget, {3: 0})]
        check_order(self, fewest_left, self.good(most=2), faults + [("most", InvalidMost, 4)])
        check_order(self, is_tree, self.good(count=0, thing=Hostile()), faults + [("count", InvalidMost, -1)])

    def test_too_many_comes_last(self):
        great = {"web": Web(13, [(0, 1)] * 3), "gains": [0, 0, 1], "target": {0: 0, 1: 0, 2: 0}, "most": 2}
        faults = [("gains", InvalidGains, [0]), ("target", InvalidTarget, None), ("most", InvalidMost, None)]
        check_order(self, fewest_left, great, faults)
        check_raises_count(self, TooMany, 13, lambda: fewest_left(**great))

    def test_any_value(self):
        targets = [thing for thing in no_integers() if not isinstance(thing, dict)] + [{True: 0}, {-1: 0}, {0: None}]
        counts = no_integers() + numbers_outside(0, 3)
        for function, more in ((fewest_left, {}), (is_tree, {"count": 0, "thing": None})):
            wrong = no_rows([0, 0, 1], no_residues(0))
            check_each_value(self, function, self.good(**more), "gains", InvalidGains, wrong)
            check_each_value(self, function, self.good(**more), "target", InvalidTarget, targets)
        check_each_value(self, fewest_left, self.good(most=0), "most", InvalidMost, counts)
        check_each_value(self, is_tree, self.good(count=0, thing=None), "count", InvalidMost, counts)
        for most in (0, 1, 2, 3):
            self.assertEqual([2] if most else None, fewest_left(**self.good(most=most))[0])

    def test_most_is_passed_by_name_only(self):
        self.assertRaises(TypeError, fewest_left, parallel(), [0, 0, 1], {0: 0}, 2)
        count = True
        check_raises(self, InvalidMost, count, lambda: is_tree(**self.good(count=count, thing=None)))


if __name__ == "__main__":
    unittest.main()
