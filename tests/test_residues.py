"""Residues, sizes, gains, potentials and sums of walks: point [8]."""

import inspect
import random
import unittest

from tests.oracles import plain_sum
from tests.samples import check_raises, no_integers, random_gains, random_walk, random_webs
from turnedties.errors import InvalidAmount, InvalidGains, InvalidWalk
from turnedties.residues import is_gains, is_potential, residue, size_of, walk_sum
from turnedties.webs import Web, ends_of

NUMBERS = list(range(-130, 131)) + [10 ** 59, -10 ** 59, 10 ** 60 - 1, 1 - 10 ** 60, 2 ** 64, -2 ** 63]
MODULI = [0] + list(range(2, 61))


def ring(modulus):
    return Web(3, [(0, 1), (1, 2), (2, 0)], modulus=modulus)


class Examples(unittest.TestCase):
    def test_residues_and_sum(self):
        web = ring(5)
        self.assertEqual(
            [4, 1, 1],
            [residue(web, -1), size_of(web, -1), walk_sum(web, [1, 2, 3], [(2, 1), (0, 1), (1, 1)])],
        )


class Interface(unittest.TestCase):
    def test_arguments(self):
        self.assertEqual("(web, number)", str(inspect.signature(residue)))
        self.assertEqual("(web, number)", str(inspect.signature(size_of)))
        self.assertEqual("(web, thing)", str(inspect.signature(is_gains)))
        self.assertEqual("(web, thing)", str(inspect.signature(is_potential)))
        self.assertEqual("(web, gains, walk)", str(inspect.signature(walk_sum)))


class Residues(unittest.TestCase):
    def test_without_modulus_numbers_stay(self):
        for number in NUMBERS:
            self.assertEqual((number, abs(number)), (residue(Web(1), number), size_of(Web(1), number)))

    def test_with_a_modulus(self):
        for modulus in MODULI[1:]:
            web = Web(1, modulus=modulus)
            for number in NUMBERS:
                reduced = residue(web, number)
                self.assertIn(reduced, range(modulus))
                self.assertEqual(0, (number - reduced) % modulus)
                self.assertEqual(min(abs(reduced), abs(reduced - modulus)), size_of(web, number))

    def test_sizes(self):
        self.assertEqual([0, 1, 2, 2, 1, 0], [size_of(ring(5), number) for number in range(6)])
        self.assertEqual([0, 1, 2, 3, 2, 1, 0], [size_of(ring(6), number) for number in range(7)])
        self.assertEqual([1, 0, 1, 0], [size_of(ring(2), number) for number in (-1, 0, 1, 2)])
        self.assertEqual([30, 29, 29], [size_of(ring(60), number) for number in (30, 31, -31)])

    def test_what_is_no_integer(self):
        for modulus in (0, 2, 60):
            for number in no_integers():
                check_raises(self, InvalidAmount, number, lambda: residue(ring(modulus), number))
                check_raises(self, InvalidAmount, number, lambda: size_of(ring(modulus), number))


class GainsAndPotentials(unittest.TestCase):
    def check_both(self, expected, modulus, thing):
        """Check a web with as many edges as nodes, so that gains and potentials look alike."""
        self.assertIs(expected, is_gains(ring(modulus), thing))
        self.assertIs(expected, is_potential(ring(modulus), thing))

    def test_lists_of_residues(self):
        for modulus in MODULI[1:]:
            self.check_both(True, modulus, [0, modulus - 1, 1])
            self.check_both(True, modulus, [modulus - 1] * 3)
        for number in NUMBERS:
            self.check_both(True, 0, [0, number, -number])

    def test_residues_are_below_the_modulus_and_not_negative(self):
        for modulus in MODULI[1:]:
            for at in range(3):
                for number in (-1, modulus, modulus + 1, -modulus, 10 ** 60, -10 ** 60):
                    thing = [0, 0, 0]
                    thing[at] = number
                    self.check_both(False, modulus, thing)

    def test_lengths(self):
        for modulus in (0, 2, 60):
            for count in (0, 1, 2, 4, 5, 100):
                self.check_both(False, modulus, [0] * count)
            self.check_both(True, modulus, [0] * 3)

    def test_gains_have_one_entry_for_each_edge_and_potentials_for_each_node(self):
        for size, count in ((1, 0), (1, 60), (30, 0), (30, 60), (2, 3), (3, 2)):
            web = Web(size, [(0, size - 1)] * count, modulus=3)
            for length in range(63):
                self.assertIs(length == count, is_gains(web, [2] * length))
                self.assertIs(length == size, is_potential(web, [2] * length))

    def test_other_kinds_of_values(self):
        for modulus in (0, 2, 5):
            for thing in no_integers() + [0, 3, (0, 0, 0), ((0, 0, 0),), {0: 0, 1: 0, 2: 0}, "000", b"000", range(3)]:
                self.check_both(False, modulus, thing)

    def test_entries_that_are_no_integers(self):
        for modulus in (0, 2, 5):
            for entry in no_integers():
                self.check_both(False, modulus, [entry] * 3)
                self.check_both(False, modulus, [0, 0, entry])
                self.check_both(False, modulus, [entry, 1, 1])

    def test_the_empty_list(self):
        self.assertIs(True, is_gains(Web(2), []))
        self.assertIs(False, is_gains(Web(2), ()))
        self.assertIs(False, is_potential(Web(1), []))


class Sums(unittest.TestCase):
    def test_ordinary_sums(self):
        self.assertEqual(6, walk_sum(ring(0), [1, 2, 3], [(0, 1), (1, 1), (2, 1)]))
        self.assertEqual(-6, walk_sum(ring(0), [1, 2, 3], [(2, -1), (1, -1), (0, -1)]))
        self.assertEqual(4, walk_sum(ring(5), [1, 2, 3], [(2, -1), (1, -1), (0, -1)]))
        self.assertEqual(0, walk_sum(ring(2), [1, 1, 0], [(0, 1), (1, 1), (2, 1)]))
        self.assertEqual(0, walk_sum(ring(60), [59, 2, 59], [(0, 1), (1, 1), (2, 1)]))
        self.assertEqual(7 * 10 ** 59, walk_sum(ring(0), [10 ** 59, 0, 0], [(0, 1), (1, 1), (2, 1)] * 7))

    def test_loops(self):
        web = Web(1, [(0, 0), (0, 0)], modulus=7)
        self.assertEqual(3, walk_sum(web, [3, 5], [(0, 1)]))
        self.assertEqual(4, walk_sum(web, [3, 5], [(0, -1)]))
        self.assertEqual(5, walk_sum(web, [3, 5], [(0, -1), (1, 1), (0, 1)]))

    def test_random_sums(self):
        source = random.Random(8)
        for web in random_webs(200, 8):
            walk = random_walk(source, web)
            if walk is not None:
                self.check_sums(web, random_gains(source, web), walk)

    def check_sums(self, web, gains, walk):
        kept = (list(gains), list(walk))
        total = walk_sum(web, gains, walk)
        back = [(number, -way) for number, way in reversed(walk)]
        self.assertEqual(plain_sum(web, gains, walk), total)
        self.assertEqual(residue(web, -total), walk_sum(web, gains, back))
        self.assertEqual(0, walk_sum(web, gains, walk + back))
        self.assertEqual(kept, (gains, walk))
        start, finish = ends_of(web, walk)
        if start == finish:
            self.assertEqual(residue(web, 3 * total), walk_sum(web, gains, walk * 3))
        for at in range(1, len(walk)):
            parts = walk_sum(web, gains, walk[:at]) + walk_sum(web, gains, walk[at:])
            self.assertEqual(total, residue(web, parts))

    def test_gains_are_checked_first(self):
        web = ring(5)
        for gains in no_integers() + [[0, 0], [0] * 4, (0, 0, 0), [0, 0, 5], [0, 0, -1], [0, 0, True], 7]:
            check_raises(self, InvalidGains, gains, lambda: walk_sum(web, gains, [(0, 1)]))
            check_raises(self, InvalidGains, gains, lambda: walk_sum(web, gains, []))
            check_raises(self, InvalidGains, gains, lambda: walk_sum(web, gains, None))

    def test_walks_are_checked(self):
        web = ring(5)
        walks = [thing for thing in no_integers() if not (isinstance(thing, list) and thing == [(0, 1)])]
        walks += [[(3, 1)], [(0, 0)], [(0, True)], [(0, 1), (2, 1)], ((0, 1),), [[0, 1]], 3]
        for walk in walks:
            check_raises(self, InvalidWalk, walk, lambda: walk_sum(web, [0, 0, 0], walk))


if __name__ == "__main__":
    unittest.main()
