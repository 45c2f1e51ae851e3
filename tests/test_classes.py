"""Sums of cycles, normal gains and how many there are: point [12]."""

import inspect
import itertools
import random
import unittest

from tests.oracles import moved, plain_sum, small_gains, small_webs
from tests.samples import check_each_value, no_residues, no_rows, random_gains, random_potential, random_webs
from turnedties.equivalence import class_count, class_size, cycle_sums, normal, potential_count, transform
from turnedties.errors import InvalidGains
from turnedties.webs import Web


def ring(modulus=5):
    return Web(3, [(0, 1), (1, 2), (2, 0)], modulus=modulus)


def counts(web):
    return [class_size(web), class_count(web), potential_count(web)]


class Examples(unittest.TestCase):
    def test_the_ring(self):
        self.assertEqual([[1], [0, 0, 1]], [cycle_sums(ring(), [1, 2, 3]), normal(ring(), [1, 2, 3])])
        self.assertEqual([25, 5, 5], counts(ring()))


class Interface(unittest.TestCase):
    def test_arguments(self):
        for function in (cycle_sums, normal):
            self.assertEqual("(web, gains)", str(inspect.signature(function)))
        for function in (class_size, class_count, potential_count):
            self.assertEqual("(web)", str(inspect.signature(function)))

    def test_functions_are_defined_in_the_file(self):
        for function in (cycle_sums, normal, class_size, class_count, potential_count):
            self.assertEqual("turnedties.equivalence", function.__module__)


class Sums(unittest.TestCase):
    def test_sums_of_the_cycles_that_the_web_returns(self):
        source = random.Random(121)
        for web in random_webs(150, 121):
            gains = random_gains(source, web)
            kept = list(gains)
            self.assertEqual([plain_sum(web, gains, cycle) for cycle in web.cycles()], cycle_sums(web, gains))
            self.assertEqual(kept, gains)

    def test_normal_gains(self):
        source = random.Random(122)
        for web in random_webs(150, 122):
            gains = random_gains(source, web)
            kept = list(gains)
            found = normal(web, gains)
            expected = [0] * len(web)
            for cycle in web.cycles():
                expected[cycle[0][0]] = plain_sum(web, gains, cycle)
            self.assertEqual(expected, found)
            self.assertEqual("potential", transform(web, gains, found)[0])
            self.assertEqual(found, normal(web, found))
            self.assertIsNot(found, normal(web, found))
            self.assertEqual(found, normal(web, moved(web, gains, random_potential(source, web))))
            self.assertEqual(kept, gains)

    def test_equal_exactly_where_gains_can_be_switched_to_one_another(self):
        source = random.Random(123)
        for web in small_webs(200, 123):
            one, two = small_gains(source, web), small_gains(source, web)
            equal = normal(web, one) == normal(web, two)
            self.assertIs(equal, transform(web, one, two)[0] == "potential")

    def test_special_webs(self):
        self.assertEqual([[], []], [cycle_sums(Web(3), []), normal(Web(3), [])])
        self.assertEqual([[], [0, 0]], [cycle_sums(Web(3, [(0, 1), (2, 1)]), [7, 8]), normal(ring(0), [7, 8, -15])[:2]])
        loops = Web(1, [(0, 0), (0, 0)], modulus=4)
        self.assertEqual([[3, 1], [3, 1]], [cycle_sums(loops, [3, 1]), normal(loops, [3, 1])])
        parallel = Web(2, [(0, 1), (0, 1), (1, 0)])
        self.assertEqual([[-2, 8], [0, -2, 8]], [cycle_sums(parallel, [5, 3, 3]), normal(parallel, [5, 3, 3])])

    def test_wrong_arguments(self):
        for modulus in (0, 5):
            for function in (cycle_sums, normal):
                good = {"web": ring(modulus), "gains": [1, 2, 3]}
                wrong = no_rows([1, 2, 3], no_residues(modulus))
                check_each_value(self, function, good, "gains", InvalidGains, wrong)
                good = {"web": Web(2, modulus=modulus), "gains": []}
                check_each_value(self, function, good, "gains", InvalidGains, [(), [0], None, {}, "", 0])


class Counts(unittest.TestCase):
    def test_against_all_gains_and_all_potentials_of_small_webs(self):
        for web in small_webs(60, 124):
            if web.modulus() != 0 and web.modulus() ** (web.size() + len(web)) <= 20000:
                self.check_counts(web)

    def check_counts(self, web):
        every_gains = [list(gains) for gains in itertools.product(range(web.modulus()), repeat=len(web))]
        potentials = list(itertools.product(range(web.modulus()), repeat=web.size()))
        for gains in every_gains[:5]:
            reached = [tuple(moved(web, gains, potential)) for potential in potentials]
            self.assertEqual(len(set(reached)), class_size(web))
            for after in set(reached):
                self.assertEqual(reached.count(after), potential_count(web))
        self.assertEqual(len({tuple(normal(web, gains)) for gains in every_gains}), class_count(web))

    def test_great_webs(self):
        web = Web(30, [(node, node + 1) for node in range(29)] + [(0, 29)] * 31, modulus=60)
        self.assertEqual([60 ** 29, 60 ** 31, 60], counts(web))
        self.assertEqual([1, 1, 60 ** 30], counts(Web(30, modulus=60)))
        self.assertEqual([1, 60 ** 60, 60], counts(Web(1, [(0, 0)] * 60, modulus=60)))

    def test_without_a_modulus(self):
        self.assertEqual([1, 1, None], counts(Web(3)))
        self.assertEqual([1, None, None], counts(Web(2, [(0, 0), (1, 1)])))
        self.assertEqual([None, 1, None], counts(Web(3, [(0, 1), (2, 1)])))
        self.assertEqual([None, None, None], counts(ring(0)))
        self.assertEqual([None, None, None], counts(Web(2, [(1, 0), (1, 1)])))


if __name__ == "__main__":
    unittest.main()
