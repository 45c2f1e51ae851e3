"""Walks, closed walks and the ends of walks: point [7]."""

import inspect
import random
import unittest

from tests.samples import Agreeing, Hostile, check_raises, looped_list, no_integers, random_walk, random_webs
from turnedties.errors import InvalidWalk
from turnedties.webs import Web, ends_of, is_closed, is_walk


def triangle():
    """Three nodes in a ring, a loop at node 1, and a node alone."""
    return Web(4, [(0, 1), (1, 2), (2, 0), (1, 1)], modulus=5)


def no_steps():
    """Values that are no steps of the triangle."""
    steps = [entry for entry in no_integers() if not (isinstance(entry, tuple) and entry == (0, 1))]
    steps += [0, 1, "0+", [0, 1], (0, 1, 1), (0,)]
    for number in no_integers() + [-1, 4, 5, 10 ** 60, -10 ** 60]:
        steps.append((number, 1))
    for way in no_integers() + [0, 2, -2, 10 ** 60]:
        steps.append((0, way))
    return steps


def no_walks():
    """Values that are no walks of the triangle."""
    walks = [thing for thing in no_integers() if not (isinstance(thing, list) and thing == [(0, 1)])]
    walks += [0, 1, ((0, 1), (1, 1)), ((0, 1),), {0: (0, 1)}, {(0, 1)}, "0+ 1+", looped_list(), Hostile(), Agreeing()]
    for step in no_steps():
        walks += [[step], [(0, 1), step], [step, (0, 1)], [(0, 1), (1, 1), step]]
    walks += [[(0, 1), (0, 1)], [(0, 1), (1, -1)], [(0, 1), (2, 1)], [(3, 1), (0, 1)], [(0, 1), (1, 1), (0, 1)]]
    return walks


class Examples(unittest.TestCase):
    def test_walks(self):
        web = Web(3, [(0, 1), (2, 1)])
        self.assertEqual(
            [True, False, (0, 2), True],
            [
                is_walk(web, [(0, 1), (1, -1)]), is_walk(web, [(0, 1), (1, 1)]),
                ends_of(web, [(0, 1), (1, -1)]), is_closed(web, [(0, 1), (0, -1)]),
            ],
        )

    def test_the_empty_list_is_no_walk(self):
        walk = []
        check_raises(self, InvalidWalk, walk, lambda: ends_of(Web(3, [(0, 1), (2, 1)]), walk))


class Interface(unittest.TestCase):
    def test_arguments(self):
        self.assertEqual("(web, thing)", str(inspect.signature(is_walk)))
        self.assertEqual("(web, thing)", str(inspect.signature(is_closed)))
        self.assertEqual("(web, walk)", str(inspect.signature(ends_of)))

    def test_arguments_by_name(self):
        web = triangle()
        self.assertIs(True, is_walk(web=web, thing=[(0, 1)]))
        self.assertIs(False, is_closed(web=web, thing=[(0, 1)]))
        self.assertEqual((0, 1), ends_of(web=web, walk=[(0, 1)]))


class Walks(unittest.TestCase):
    def test_single_steps(self):
        web = triangle()
        expected = {(0, 1): (0, 1), (0, -1): (1, 0), (1, 1): (1, 2), (1, -1): (2, 1), (2, 1): (2, 0), (2, -1): (0, 2)}
        for step, ends in expected.items():
            self.assertIs(True, is_walk(web, [step]))
            self.assertIs(False, is_closed(web, [step]))
            self.assertEqual(ends, ends_of(web, [step]))

    def test_both_ways_of_a_loop(self):
        web = triangle()
        for walk in ([(3, 1)], [(3, -1)], [(3, 1), (3, 1), (3, -1)]):
            self.assertIs(True, is_walk(web, walk))
            self.assertIs(True, is_closed(web, walk))
            self.assertEqual((1, 1), ends_of(web, walk))
        self.assertEqual((0, 2), ends_of(web, [(0, 1), (3, -1), (1, 1)]))

    def test_longer_walks(self):
        web = triangle()
        self.assertIs(True, is_closed(web, [(0, 1), (1, 1), (2, 1)]))
        self.assertIs(True, is_closed(web, [(2, -1), (1, -1), (0, -1)]))
        self.assertIs(True, is_walk(web, [(0, 1), (1, 1)]))
        self.assertIs(False, is_closed(web, [(0, 1), (1, 1)]))
        self.assertIs(True, is_closed(web, [(0, 1), (1, 1), (2, 1)] * 500))

    def test_parallel_edges(self):
        web = Web(2, [(0, 1), (0, 1), (1, 0)])
        self.assertEqual((0, 0), ends_of(web, [(0, 1), (1, -1)]))
        self.assertEqual((0, 0), ends_of(web, [(0, 1), (2, 1)]))
        self.assertIs(False, is_walk(web, [(0, 1), (1, 1)]))
        self.assertIs(False, is_walk(web, [(0, 1), (2, -1)]))

    def test_ends_are_a_tuple(self):
        self.assertIs(tuple, type(ends_of(triangle(), [(0, 1)])))

    def test_random_walks(self):
        source = random.Random(6)
        for web in random_webs(150, 6):
            walk = random_walk(source, web)
            if walk is not None:
                self.check_random_walk(web, walk)

    def check_random_walk(self, web, walk):
        kept = list(walk)
        starts = [web.edge(number)[0 if way == 1 else 1] for number, way in walk]
        finishes = [web.edge(number)[1 if way == 1 else 0] for number, way in walk]
        self.assertIs(True, is_walk(web, walk))
        self.assertEqual((starts[0], finishes[-1]), ends_of(web, walk))
        self.assertIs(starts[0] == finishes[-1], is_closed(web, walk))
        self.assertEqual(kept, walk)
        jumbled = walk[1:] + walk[:1]
        joined = all(finishes[at] == starts[at + 1] for at in range(1, len(walk) - 1))
        joined = joined and (len(walk) == 1 or finishes[-1] == starts[0])
        self.assertIs(joined, is_walk(web, jumbled))


class NoWalks(unittest.TestCase):
    def test_what_is_no_walk(self):
        web = triangle()
        for thing in no_walks():
            self.assertIs(False, is_walk(web, thing))
            self.assertIs(False, is_closed(web, thing))
            check_raises(self, InvalidWalk, thing, lambda: ends_of(web, thing))

    def test_a_web_without_edges_has_no_walks(self):
        for web in (Web(1), Web(30)):
            for thing in ([], [(0, 1)], [(-1, 1)], [(0, 0)]):
                self.assertIs(False, is_walk(web, thing))
                self.assertIs(False, is_closed(web, thing))
                check_raises(self, InvalidWalk, thing, lambda: ends_of(web, thing))

    def test_the_last_edge(self):
        web = Web(2, [(0, 1)] * 60)
        self.assertIs(True, is_walk(web, [(59, 1)]))
        self.assertIs(False, is_walk(web, [(60, 1)]))
        self.assertIs(False, is_walk(web, [(-1, 1)]))


if __name__ == "__main__":
    unittest.main()
