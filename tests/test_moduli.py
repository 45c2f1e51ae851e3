"""Reduced moduli, separating moduli, factors and what they are combined to: points [25] and [26], and [4] (g)."""

import inspect
import itertools
import math
import random
import unittest

from tests.oracles import moved
from tests.samples import (
    Agreeing, Hostile, check_each_value, check_order, check_raises, check_raises_count, looped_list, no_integers,
    no_residues, no_rows, numbers_outside, random_gains, random_potential, random_webs,
)
from turnedties.equivalence import cycle_sums, transform
from turnedties.errors import InvalidGains, InvalidModulus, InvalidPotential
from turnedties.moduli import combined, factors, reduced, reduced_gains, separating
from turnedties.webs import Web


def pair(modulus=0):
    return Web(2, [(0, 1), (0, 1)], modulus=modulus)


def no_moduli():
    """Values that are no modulus from 2 to 60."""
    return no_integers() + numbers_outside(2, 60) + [0, 1, -2, -60]


def is_reached(web, before, after):
    return transform(web, before, after)[0] == "potential"


class Examples(unittest.TestCase):
    def test_reduced_and_separating(self):
        self.assertEqual("Web(2, [(0, 1), (0, 1)], modulus=4)", repr(reduced(pair(), 4)))
        self.assertEqual([3, 3], reduced_gains(pair(), [7, -1], 4))
        self.assertEqual(4, separating(pair(), [0, 0], [0, 6]))

    def test_factors_and_combined(self):
        web = Web(2, [(0, 1)], modulus=12)
        self.assertEqual([[3, 4], [7, 5]], [factors(web), combined(web, [[1, 2], [3, 1]])])


class Interface(unittest.TestCase):
    def test_arguments(self):
        for function, arguments in (
            (reduced, "(web, modulus)"), (reduced_gains, "(web, gains, modulus)"), (factors, "(web)"),
            (separating, "(web, before, after)"), (combined, "(web, potentials)"),
        ):
            self.assertEqual(arguments, str(inspect.signature(function)))
            self.assertEqual("turnedties.moduli", function.__module__)


class Reduced(unittest.TestCase):
    def test_every_modulus_that_divides(self):
        for modulus in [0] + list(range(2, 61)):
            web = Web(3, [(0, 1), (2, 2)], modulus=modulus)
            for number in range(2, 61):
                if modulus % number == 0:
                    found = reduced(web, number)
                    self.assertEqual(Web(3, [(0, 1), (2, 2)], modulus=number), found)
                    self.assertIs(Web, type(found))
                else:
                    check_raises_count(self, InvalidModulus, number, lambda: reduced(web, number))
                    check_raises_count(self, InvalidModulus, number, lambda: reduced_gains(web, [0, 0], number))
            self.assertEqual(modulus, web.modulus())

    def test_remainders(self):
        for modulus in range(2, 61):
            self.assertEqual([7 % modulus, -7 % modulus], reduced_gains(pair(), [7, -7], modulus))
            self.assertEqual([0, 10 ** 60 % modulus], reduced_gains(pair(), [0, 10 ** 60], modulus))
        self.assertEqual([3, 1], reduced_gains(pair(60), [59, 53], 4))
        self.assertEqual([59, 53], reduced_gains(pair(60), [59, 53], 60))
        self.assertEqual([], reduced_gains(Web(1), [], 2))

    def test_reducing_twice_is_reducing_once(self):
        source = random.Random(251)
        for web in random_webs(60, 251):
            gains = random_gains(source, web)
            kept = list(gains)
            divisors = [number for number in range(2, 61) if web.modulus() % number == 0]
            for one in source.sample(divisors, min(6, len(divisors))):
                between, some = reduced(web, one), reduced_gains(web, gains, one)
                for two in [number for number in divisors if one % number == 0]:
                    self.assertEqual(reduced(web, two), reduced(between, two))
                    self.assertEqual(reduced_gains(web, gains, two), reduced_gains(between, some, two))
            self.assertEqual(kept, gains)

    def test_results_are_new(self):
        gains = [1, 2]
        first = reduced_gains(pair(5), gains, 5)
        first.append(9)
        self.assertEqual([[1, 2], [1, 2]], [gains, reduced_gains(pair(5), gains, 5)])

    def test_any_value_as_modulus(self):
        for modulus in (0, 12):
            check_each_value(self, reduced, {"web": pair(modulus)}, "modulus", InvalidModulus, no_moduli())
            good = {"web": pair(modulus), "gains": [1, 2]}
            check_each_value(self, reduced_gains, good, "modulus", InvalidModulus, no_moduli())

    def test_invalid_gains_come_first(self):
        for modulus in (0, 12):
            good = {"web": pair(modulus), "gains": [1, 2], "modulus": 4}
            check_order(self, reduced_gains, good, [("gains", InvalidGains, [1]), ("modulus", InvalidModulus, [4])])
            check_each_value(self, reduced_gains, good, "gains", InvalidGains, no_rows([1, 2], no_residues(modulus)))


class Separating(unittest.TestCase):
    def plain(self, web, before, after):
        for modulus in range(2, 61):
            less = reduced(web, modulus)
            if not is_reached(less, reduced_gains(web, before, modulus), reduced_gains(web, after, modulus)):
                return modulus
        return None

    def test_against_all_moduli(self):
        source = random.Random(252)
        numbers = [1, 2, 6, 12, 60, 2520, 27720, 720720, math.lcm(*range(2, 31)), math.lcm(*range(2, 61)), 10 ** 59]
        seen = {}
        for web in random_webs(120, 252):
            web = Web(web.size(), web.edges())
            before = random_gains(source, web)
            after = moved(web, before, random_potential(source, web))
            for number in range(len(after)):
                if source.random() < 0.4:
                    after[number] += source.choice([-1, 1]) * source.choice(numbers[source.randrange(len(numbers)):])
            kept = list(before), list(after)
            found = separating(web, before, after)
            self.assertEqual(self.plain(web, before, after), found)
            self.assertEqual(kept, (before, after))
            seen[found] = True
        self.assertGreater(len(seen), 5)
        self.assertIn(None, seen)

    def test_each_answer(self):
        for modulus in range(2, 61):
            number = math.lcm(*range(2, modulus)) if modulus > 2 else 1
            expected = next(other for other in range(2, 100) if number % other)
            self.assertEqual(expected if expected <= 60 else None, separating(pair(), [5, 5], [5, 5 + number]))
        self.assertEqual(59, separating(pair(), [0, 0], [math.lcm(*range(2, 59)), 0]))
        self.assertIsNone(separating(pair(), [0, 0], [0, math.lcm(*range(2, 61))]))
        self.assertIsNone(separating(pair(), [0, 0], [-math.lcm(*range(2, 61)), 0]))
        self.assertIsNone(separating(pair(), [3, 4], [10 ** 60, 10 ** 60 + 1]))
        self.assertIsNone(separating(Web(2, [(0, 1)]), [3], [4]))
        self.assertIsNone(separating(Web(2), [], []))
        self.assertEqual(2, separating(Web(1, [(0, 0)]), [3], [4]))

    def test_wrong_arguments(self):
        faults = [("before", InvalidGains, [0]), ("after", InvalidGains, [0, None])]
        for modulus in [0] + list(range(2, 61)):
            good = {"web": pair(modulus), "before": [0, 1], "after": [1, 1]}
            check_order(self, separating, good, faults)
            if modulus > 0:
                check_raises_count(self, InvalidModulus, modulus, lambda: separating(**good))
                check_raises_count(self, InvalidModulus, modulus, lambda: separating(pair(modulus), [0, 0], [0, 0]))
        good = {"web": pair(), "before": [0, 1], "after": [1, 1]}
        for name in ("before", "after"):
            check_each_value(self, separating, good, name, InvalidGains, no_rows([0, 1], no_integers()))


class Factors(unittest.TestCase):
    def test_every_modulus(self):
        for modulus in range(2, 61):
            found = factors(Web(1, modulus=modulus))
            self.assertEqual(sorted(found), found)
            self.assertEqual(modulus, math.prod(found))
            for one, two in itertools.combinations(found, 2):
                self.assertEqual(1, math.gcd(one, two))
            for factor in found:
                primes = [number for number in range(2, 61) if all(number % less for less in range(2, number))]
                self.assertEqual(1, len([prime for prime in primes if factor % prime == 0]))

    def test_written_out(self):
        expected = {2: [2], 4: [4], 6: [2, 3], 8: [8], 12: [3, 4], 16: [16], 24: [3, 8], 27: [27], 30: [2, 3, 5],
                    32: [32], 36: [4, 9], 40: [5, 8], 45: [5, 9], 48: [3, 16], 49: [49], 50: [2, 25], 54: [2, 27],
                    56: [7, 8], 59: [59], 60: [3, 4, 5]}
        for modulus, powers in expected.items():
            self.assertEqual(powers, factors(Web(3, [(0, 1)], modulus=modulus)))

    def test_no_modulus(self):
        check_raises_count(self, InvalidModulus, 0, lambda: factors(Web(2)))

    def test_results_are_new(self):
        web = Web(2, modulus=60)
        factors(web).append(7)
        self.assertEqual([3, 4, 5], factors(web))


class Combined(unittest.TestCase):
    def test_every_modulus_and_every_residue(self):
        for modulus in range(2, 61):
            for start in range(0, modulus, 30):
                values = list(range(start, min(start + 30, modulus)))
                web = Web(len(values), [(0, 0)], modulus=modulus)
                rests = [[value % factor for value in values] for factor in factors(web)]
                kept = [list(rest) for rest in rests]
                self.assertEqual(values, combined(web, rests))
                self.assertEqual(values, combined(web, tuple(rests)))
                self.assertEqual(kept, rests)

    def test_residues_modulo_each_factor(self):
        source = random.Random(261)
        for web in random_webs(60, 261):
            if web.modulus() > 0:
                parts = [random_potential(source, reduced(web, factor)) for factor in factors(web)]
                found = combined(web, parts)
                for factor, part in zip(factors(web), parts):
                    self.assertEqual(part, [value % factor for value in found])
                self.assertTrue(all(0 <= value < web.modulus() for value in found))

    def test_the_result_is_new(self):
        parts = [[1, 2]]
        found = combined(pair(7), parts)
        self.assertEqual([1, 2], found)
        found.append(3)
        self.assertEqual([[1, 2]], parts)

    def test_modulus_0_comes_first(self):
        for potentials in (Hostile(), None, [], [[0, 0]], (), [[1]], looped_list()):
            check_raises_count(self, InvalidModulus, 0, lambda: combined(pair(), potentials))

    def test_the_argument(self):
        wrong = [None, True, 0, 2, "", "01", b"", {}, {0: [1, 2], 1: [0, 1]}, set(), object(), Hostile(), Agreeing()]
        wrong += [[], (), [[1, 2]], ([1, 2],), [[1, 2]] * 3, ([1, 2],) * 3, looped_list(), [Hostile()], [None] * 3, len]
        check_each_value(self, combined, {"web": pair(12)}, "potentials", InvalidPotential, wrong)

    def test_the_first_invalid_entry(self):
        for kind in (list, tuple):
            for entry in no_rows([1, 2], no_residues(3)):
                potentials = kind([entry, None])
                check_raises(self, InvalidPotential, entry, lambda: combined(pair(12), potentials))
            for entry in no_rows([1, 2], no_residues(4)):
                potentials = kind([[1, 2], entry])
                check_raises(self, InvalidPotential, entry, lambda: combined(pair(12), potentials))
        # 3 is a residue for the factor 4, and none for the factor 3.
        wrong = [3, 0]
        check_raises(self, InvalidPotential, wrong, lambda: combined(pair(12), [wrong, [0, 0]]))
        self.assertEqual([3, 0], combined(pair(12), [[0, 0], wrong]))


class Equivalence(unittest.TestCase):
    def test_gains_that_are_equivalent_stay_so(self):
        source = random.Random(262)
        for web in random_webs(80, 262):
            before = random_gains(source, web)
            after = moved(web, before, random_potential(source, web))
            for modulus in range(2, 61):
                if web.modulus() % modulus == 0:
                    rows = [reduced_gains(web, gains, modulus) for gains in (before, after)]
                    self.assertTrue(is_reached(reduced(web, modulus), *rows))
                    sums = [total % modulus for total in cycle_sums(web, before)]
                    self.assertEqual(sums, cycle_sums(reduced(web, modulus), rows[0]))

    def test_exactly_if_they_are_equivalent_modulo_each_factor(self):
        source = random.Random(263)
        seen = {True: 0, False: 0}
        for at in range(300):
            modulus = source.choice([4, 6, 12, 30, 36, 60])
            size = source.randint(1, 5)
            edges = [(source.randrange(size), source.randrange(size)) for number in range(source.randint(1, 7))]
            web = Web(size, edges, modulus=modulus)
            before = random_gains(source, web)
            after = moved(web, before, random_potential(source, web))
            number = source.randrange(len(after))
            after[number] = (after[number] + source.choice([0, 0, modulus // 2, *factors(web)])) % modulus
            parts = []
            for factor in factors(web):
                rows = [reduced_gains(web, gains, factor) for gains in (before, after)]
                parts.append(transform(reduced(web, factor), *rows))
            reached = all(part[0] == "potential" for part in parts)
            seen[reached] += 1
            self.assertIs(reached, is_reached(web, before, after))
            if reached:
                self.assertEqual(after, moved(web, before, combined(web, [part[1] for part in parts])))
        self.assertGreater(min(seen.values()), 50)


if __name__ == "__main__":
    unittest.main()
