"""Friends and foes: point [27], and [4] (h) and (i)."""

import inspect
import itertools
import random
import unittest

from tests.oracles import plain_sum, walk_ends
from tests.renamed import Renamed
from tests.samples import (
    Agreeing, Hostile, check_each_value, check_raises_count, looped_list, no_integers, no_residues, no_rows,
    numbers_outside, random_walk,
)
from turnedties.camps import camps, is_camps
from turnedties.errors import InvalidGains, InvalidModulus
from turnedties.webs import Web


def square():
    """Three nodes in a ring and a node alone."""
    return Web(4, [(0, 1), (1, 2), (2, 0)], modulus=2)


def webs_of(count, seed, most):
    """Webs with the modulus 2 and gains."""
    source = random.Random(seed)
    for at in range(count):
        size = source.randint(1, most)
        edges = [(source.randrange(size), source.randrange(size)) for number in range(source.randint(0, size + 2))]
        web = Web(size, edges, modulus=2)
        gains = [source.randrange(2) for edge in edges]
        if source.random() < 0.6:
            side = [source.randrange(2) for node in range(size)]
            gains = [int(side[tail] != side[head]) for tail, head in edges]
        yield source, web, gains


def every_split(web, gains):
    """All splits of the nodes into two camps that suit friends and foes, as pairs of ascending lists."""
    found = []
    for sides in itertools.product((0, 1), repeat=web.size()):
        if all((sides[tail] != sides[head]) == (gain == 1) for gain, (tail, head) in zip(gains, web.edges())):
            found.append(tuple([node for node in range(web.size()) if sides[node] == side] for side in (0, 1)))
    return found


def check_cycle(case, web, gains, result):
    """Check that the result is a closed walk whose sum is 1."""
    case.assertIs(tuple, type(result))
    word, walk = result
    case.assertEqual("cycle", word)
    start, finish = walk_ends(web, walk)
    case.assertEqual(start, finish)
    case.assertEqual(1, plain_sum(web, gains, walk))


class Examples(unittest.TestCase):
    def test_the_square(self):
        self.assertEqual(("camps", [0, 2, 3], [1]), camps(square(), [1, 1, 0]))
        self.assertEqual("cycle", camps(square(), [1, 1, 1])[0])
        self.assertIs(True, is_camps(square(), [1, 1, 0], ("camps", [1], [0, 2, 3])))


class Interface(unittest.TestCase):
    def test_arguments(self):
        self.assertEqual("(web, gains)", str(inspect.signature(camps)))
        self.assertEqual("(web, gains, thing)", str(inspect.signature(is_camps)))
        for function in (camps, is_camps):
            self.assertEqual("turnedties.camps", function.__module__)


class Camps(unittest.TestCase):
    def test_small_webs_against_all_splits(self):
        words = {"camps": 0, "cycle": 0}
        for source, web, gains in webs_of(400, 271, 7):
            kept, splits = list(gains), every_split(web, gains)
            result = camps(web, gains)
            words[result[0]] += 1
            self.assertEqual(bool(splits), result[0] == "camps")
            if splits:
                # The split with the first node of each component in the left camp is the first one of all.
                self.assertEqual(("camps", *splits[0]), result)
                for group in web.components():
                    self.assertIn(group[0], result[1])
            else:
                check_cycle(self, web, gains, result)
            self.assertIs(True, is_camps(web, gains, result))
            self.assertEqual(kept, gains)
        self.assertGreater(min(words.values()), 50)

    def test_great_webs(self):
        words = {"camps": 0, "cycle": 0}
        for source, web, gains in webs_of(200, 272, 30):
            result = camps(web, gains)
            words[result[0]] += 1
            if result[0] == "cycle":
                check_cycle(self, web, gains, result)
            else:
                word, left, right = result
                self.assertEqual([list, list], [type(left), type(right)])
                self.assertEqual([sorted(left), sorted(right)], [left, right])
                self.assertEqual(list(range(web.size())), sorted(left + right))
                for gain, (tail, head) in zip(gains, web.edges()):
                    self.assertIs(gain == 0, (tail in left) == (head in left))
                for group in web.components():
                    self.assertIn(group[0], left)
            self.assertIs(True, is_camps(web, gains, result))
        self.assertGreater(min(words.values()), 20)

    def test_special_webs(self):
        self.assertEqual(("camps", [0], []), camps(Web(1, modulus=2), []))
        self.assertEqual(("camps", [0, 1, 2], []), camps(Web(3, modulus=2), []))
        self.assertEqual(("camps", [0], []), camps(Web(1, [(0, 0)], modulus=2), [0]))
        self.assertEqual(("cycle", [(0, 1)]), camps(Web(1, [(0, 0)], modulus=2), [1]))
        pair = Web(2, [(0, 1), (1, 0)], modulus=2)
        self.assertEqual(("camps", [0], [1]), camps(pair, [1, 1]))
        self.assertEqual(("camps", [0, 1], []), camps(pair, [0, 0]))
        check_cycle(self, pair, [1, 0], camps(pair, [1, 0]))
        ring = Web(30, [(node, (node + 1) % 30) for node in range(30)], modulus=2)
        self.assertEqual(("camps", list(range(0, 30, 2)), list(range(1, 30, 2))), camps(ring, [1] * 30))
        check_cycle(self, ring, [1] * 29 + [0], camps(ring, [1] * 29 + [0]))

    def test_results_are_new(self):
        first = camps(square(), [1, 1, 0])
        first[1].append(7)
        first[2].append(7)
        self.assertEqual(("camps", [0, 2, 3], [1]), camps(square(), [1, 1, 0]))


class IsCamps(unittest.TestCase):
    def test_all_splits_of_small_webs(self):
        for source, web, gains in webs_of(150, 273, 5):
            splits = every_split(web, gains)
            for sides in itertools.product((0, 1), repeat=web.size()):
                pair = tuple([node for node in range(web.size()) if sides[node] == side] for side in (0, 1))
                self.assertIs(pair in splits, is_camps(web, gains, ("camps", *pair)))

    def test_all_pairs_of_lists_of_small_nodes(self):
        web, lists = Web(2, [(0, 1)], modulus=2), [[]]
        for count in (1, 2, 3):
            lists += [list(nodes) for nodes in itertools.product((0, 1), repeat=count)]
        for gain, good in ((0, [([0, 1], []), ([], [0, 1])]), (1, [([0], [1]), ([1], [0])])):
            for left, right in itertools.product(lists, repeat=2):
                self.assertIs((left, right) in good, is_camps(web, [gain], ("camps", left, right)))

    def test_walks_whoever_wrote_them(self):
        seen = {True: 0, False: 0}
        for source, web, gains in webs_of(200, 274, 5):
            for at in range(10 if len(web) else 0):
                walk = random_walk(source, web)
                start, finish = walk_ends(web, walk)
                expected = start == finish and plain_sum(web, gains, walk) == 1
                seen[expected] += 1
                self.assertIs(expected, is_camps(web, gains, ("cycle", walk)))
                if expected:
                    self.assertEqual([], every_split(web, gains))
                self.assertIs(False, is_camps(web, gains, ("fixed", walk)))
        self.assertGreater(min(seen.values()), 50)

    def check(self, expected, thing):
        self.assertIs(expected, is_camps(square(), [1, 1, 0], thing))

    def test_camps(self):
        for left, right in (([0, 2, 3], [1]), ([1], [0, 2, 3]), ([0, 2], [1, 3]), ([1, 3], [0, 2])):
            self.check(True, ("camps", left, right))
        for left, right in (
            ([0, 2], [1]), ([0, 2, 3], []), ([0, 2, 3], [1, 3]), ([0, 2, 2, 3], [1]), ([0, 2, 3], [1, 1]), ([], []),
            ([0, 3, 2], [1]), ([3, 2, 0], [1]), ([0, 2], [3, 1]), ([0, 1, 3], [2]), ([0, 1, 2, 3], []),
            ([0, 2, 4], [1]), ([-1, 0, 2], [1]), ([0, 2, 3], [1, 4]), ([0, 2, 3, 1], []), ([], [0, 1, 2, 3]),
        ):
            self.check(False, ("camps", left, right))
            self.check(False, ("camps", right, left))

    def test_any_value(self):
        left, right = [0, 2, 3], [1]
        things = no_integers() + [
            0, 2, ["camps", left, right], ("camps",), ("camps", left), ("camps", left, right, []), (left, right),
            ("Camps", left, right), ("camp", left, right), (b"camps", left, right), (None, left, right), left,
            (Hostile(), left, right), (Agreeing(), left, right), ("camps", (left, right)), ("camps", [left, right]),
            ("potential", [0, 1, 0, 0]), ("potential", left, right), ("fixed", [(0, 1)]), ("cycle", left, right),
            ("cycle", []), ("cycle", None), ("cycle", Hostile()), (Hostile(), [(0, 1)]), looped_list(),
            ("cycle", [(0, 1)]), ("cycle", [(0, 1), (0, -1)]), ("camps", left, right, None), ("left", left, right),
            {"camps": (left, right)},
        ]
        things += [("camps", wrong, right) for wrong in no_rows(left, no_integers() + numbers_outside(0, 3) + [1, 2])]
        things += [("camps", left, wrong) for wrong in no_rows(right, no_integers() + numbers_outside(0, 3) + [0, 2])]
        things += [("camps", wrong, left) for wrong in (True, [True], (1,), [[1]], "1", {1}, {1: 1}, range(1, 2), None)]
        things += [("camps", [False, 2, 3], right), ("camps", left, [True]), ("camps", tuple(left), tuple(right))]
        for thing in things:
            self.check(False, thing)
        self.check(True, ("camps", left, right))

    def test_any_value_as_a_walk(self):
        good = [(2, 1), (0, 1), (1, 1)]
        self.assertIs(True, is_camps(square(), [1, 1, 1], ("cycle", good)))
        for walk in no_rows(good, no_integers() + [0, (3, 1), (0, 2), (0, 0), (True, 1), (0, True), [0, 1]]):
            self.assertIs(False, is_camps(square(), [1, 1, 1], ("cycle", walk)))
        self.assertIs(False, is_camps(square(), [1, 1, 1], ["cycle", good]))
        self.assertIs(False, is_camps(square(), [1, 1, 1], ("cycle", good, good)))


class WrongArguments(unittest.TestCase):
    def test_gains(self):
        for modulus in (2, 3, 0):
            good = {"web": Web(2, [(0, 1), (1, 0)], modulus=modulus), "gains": [0, 1]}
            wrong = no_rows([0, 1], no_residues(modulus))
            check_each_value(self, camps, good, "gains", InvalidGains, wrong)
            check_each_value(self, is_camps, {**good, "thing": Hostile()}, "gains", InvalidGains, wrong)

    def test_the_modulus_of_the_web(self):
        for modulus in [0] + list(range(3, 61)):
            for edges in ([], [(0, 1)]):
                web, gains = Web(2, edges, modulus=modulus), [1] * len(edges)
                check_raises_count(self, InvalidModulus, modulus, lambda: camps(web, gains))
                for thing in (Hostile(), ("camps", [0], [1]), ("camps", [0, 1], [])):
                    check_raises_count(self, InvalidModulus, modulus, lambda: is_camps(web, gains, thing))


class Translated(unittest.TestCase):
    def test_renumbered_nodes_and_edges(self):
        for source, web, gains in webs_of(200, 275, 12):
            renamed = Renamed(source, web)
            result, other = camps(web, gains), camps(renamed.other, renamed.gains(gains))
            self.assertEqual(result[0], other[0])
            if result[0] == "cycle":
                thing = "cycle", renamed.walk(result[1])
            else:
                thing = ("camps", *[sorted(renamed.some(nodes)) for nodes in result[1:]])
            self.assertIs(True, is_camps(renamed.other, renamed.gains(gains), thing))


if __name__ == "__main__":
    unittest.main()
