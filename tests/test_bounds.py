"""Lower bounds of what potentials cost: point [15], and point [4] (b)."""

import inspect
import random
import unittest

from tests.oracles import (
    check_excluding, excluded_by_cycles, leading, moved, plain_cost, small_after, small_gains, small_webs,
)
from tests.samples import (
    Hostile, check_each_value, check_order, check_raises_count, looped_list, no_fixed, no_integers, no_rows, no_weights,
    random_fixed, random_gains, random_potential, random_webs,
)
from turnedties.costs import cheapest, is_lower_bound, lower_bound
from turnedties.errors import InvalidFixed, InvalidGains, InvalidModulus, InvalidWeights
from turnedties.webs import Web


def chain(modulus=0):
    return Web(3, [(0, 1), (1, 2)], modulus=modulus)


def is_bound(web, thing, weights, fixed, potential):
    """Whether slopes and a total are a lower bound, if the potential leads there and respects the fixed nodes."""
    slopes, total = thing
    for slope, weight in zip(slopes, weights or [1] * web.size()):
        if abs(slope) > weight:
            return False
    for group in web.components():
        if not set(group) & set(fixed) and sum(slopes[node] for node in group) != 0:
            return False
    return total == sum(slope * value for slope, value in zip(slopes, potential))


def tasks(webs, source, gains_of, after_of):
    """Webs without a modulus, with gains before and after, weights and fixed nodes."""
    for web in webs:
        web = Web(web.size(), web.edges())
        before = gains_of(source, web)
        after = after_of(source, web, before)
        fixed = random_fixed(source, web) if source.random() < 0.5 else ()
        weights = source.choice([None, [source.randint(1, 4) for node in range(web.size())]])
        yield web, before, after, weights, fixed


def after_by_potential(source, web, before):
    return moved(web, before, random_potential(source, web))


class Examples(unittest.TestCase):
    def test_lower_bound(self):
        self.assertEqual(5, lower_bound(chain(), [0, 0], [4, 1])[1])
        self.assertIs(True, is_lower_bound(chain(), [0, 0], [4, 1], ([1, 0, -1], 5)))
        self.assertIs(False, is_lower_bound(chain(), [0, 0], [4, 1], ([1, 0, 0], 0)))

    def test_invalid_modulus(self):
        check_raises_count(self, InvalidModulus, 4, lambda: lower_bound(Web(2, modulus=4), [], []))


class Interface(unittest.TestCase):
    def test_arguments(self):
        self.assertEqual("(web, before, after, *, weights=None, fixed=())", str(inspect.signature(lower_bound)))
        self.assertEqual(
            "(web, before, after, thing, *, weights=None, fixed=())", str(inspect.signature(is_lower_bound)),
        )

    def test_functions_are_defined_in_the_file(self):
        for function in (lower_bound, is_lower_bound):
            self.assertEqual("turnedties.costs", function.__module__)


class LowerBound(unittest.TestCase):
    def test_small_webs(self):
        words = {"bound": 0, "cycle": 0, "fixed": 0}
        smalls = [web for web in small_webs(900, 151) if web.size() < 4]
        for web, before, after, weights, fixed in tasks(smalls, random.Random(151), small_gains, small_after):
            result = lower_bound(web, before, after, weights=weights, fixed=fixed)
            potentials = leading(web, before, after, fixed)
            if potentials:
                words["bound"] += 1
                lowest = min(plain_cost(web, potential, weights) for potential in potentials)
                self.assertEqual(lowest, result[1])
                for potential in potentials:
                    self.assertTrue(is_bound(web, result, weights, fixed, potential))
            else:
                words[result[0]] += 1
                closed = check_excluding(self, web, before, after, fixed, result)
                self.assertIs(excluded_by_cycles(web, before, after), closed)
        self.assertGreater(min(words.values()), 20)

    def test_great_webs(self):
        source = random.Random(152)
        for web, before, after, weights, fixed in tasks(random_webs(200, 152), source, random_gains, after_by_potential):
            result = lower_bound(web, before, after, weights=weights, fixed=fixed)
            found = cheapest(web, before, after, weights=weights, fixed=fixed)
            if found[0] == "potential":
                self.assertEqual([tuple, list, int], [type(result), type(result[0]), type(result[1])])
                self.assertEqual([int] * web.size(), [type(slope) for slope in result[0]])
                self.assertEqual(found[2], result[1])
                self.assertTrue(is_bound(web, result, weights, fixed, found[1]))
                self.assertIs(True, is_lower_bound(web, before, after, result, weights=weights, fixed=fixed))
            else:
                self.assertEqual(found, result)

    def test_several_nodes_at_which_a_cheapest_potential_is_0(self):
        star = Web(6, [(0, node) for node in range(1, 6)])
        for after in ([0, 0, 0, 0, 0], [0, 0, 0, 0, 9], [0, 0, 0, 9, 9], [0, 0, -9, 9, 9], [0, 0, 9, 9, 9]):
            for weights in (None, [9, 1, 1, 1, 1, 1], [1, 2, 3, 4, 5, 6], [6, 5, 4, 3, 2, 1]):
                result = lower_bound(star, [0] * 5, after, weights=weights)
                found = cheapest(star, [0] * 5, after, weights=weights)
                self.assertEqual(found[2], result[1])
                self.assertTrue(is_bound(star, result, weights, (), found[1]))

    def test_arguments_stay_and_results_are_new(self):
        before, after, weights, fixed = [0, 0], [4, 1], [1, 2, 1], [1]
        first = lower_bound(chain(), before, after, weights=weights, fixed=fixed)
        kept = (list(first[0]), first[1])
        first[0].append(1)
        self.assertEqual(kept, lower_bound(chain(), before, after, weights=tuple(weights), fixed=tuple(fixed)))
        self.assertEqual([[0, 0], [4, 1], [1, 2, 1], [1]], [before, after, weights, fixed])
        plain = lower_bound(chain(), before, after)
        self.assertEqual(plain, lower_bound(chain(), before, after, weights=[1, 1, 1], fixed=[]))


class IsLowerBound(unittest.TestCase):
    def check(self, expected, thing, **keywords):
        self.assertIs(expected, is_lower_bound(chain(), [0, 0], [4, 1], thing, **keywords))

    def test_all_slopes_of_small_webs(self):
        source = random.Random(153)
        smalls = [web for web in small_webs(150, 153) if web.size() < 4]
        for web, before, after, weights, fixed in tasks(smalls, source, small_gains, small_after):
            potentials = leading(web, before, after, fixed)
            for slopes in leading(web, before, before, (), [])[::3]:
                self.check_slopes(web, before, after, slopes, {"weights": weights, "fixed": fixed}, potentials)

    def check_slopes(self, web, before, after, slopes, keywords, potentials):
        if not potentials:
            for total in (0, 1):
                self.assertIs(False, is_lower_bound(web, before, after, (slopes, total), **keywords))
            return
        total = sum(slope * value for slope, value in zip(slopes, potentials[0]))
        for other in (total, total + 1, 0):
            expected = is_bound(web, (slopes, other), *keywords.values(), potentials[0])
            self.assertIs(expected, is_lower_bound(web, before, after, (slopes, other), **keywords))
            if expected:
                self.assertLessEqual(total, min(plain_cost(web, potential, keywords["weights"]) for potential in potentials))

    def test_bounds_that_lower_bound_does_not_return(self):
        self.check(True, ([0, 0, 0], 0))
        self.check(True, ([-1, 0, 1], -5))
        self.check(True, ([1, -1, 0], 4))
        self.check(True, ([0, 1, -1], 1))
        self.check(False, ([1, -1, 0], 5))
        self.check(False, ([1, 1, -2], 6))
        self.check(True, ([1, 1, -2], 6), weights=[1, 1, 2])
        self.check(True, ([3, -1, -2], 14), weights=(3, 1, 2))
        self.check(False, ([3, -1, -2], 14), weights=(2, 1, 2))

    def test_slopes_of_components_with_fixed_nodes_add_up_to_anything(self):
        self.check(True, ([1, 1, 1], 6), fixed=[2])
        self.check(True, ([1, 1, -1], 6), fixed=(2,))
        self.check(True, ([1, 1, 1], 4 - 1), fixed=[1])
        self.check(True, ([0, -1, 0], 4), fixed=[0])
        self.check(False, ([0, -1, 0], 4))
        self.check(False, ([0, -1, 0], 4), fixed=[0, 1])

    def test_no_potential(self):
        self.check(False, ([0, 0, 0], 0), fixed=[0, 1])
        web = Web(1, [(0, 0)])
        self.assertIs(False, is_lower_bound(web, [0], [1], ([0], 0)))
        self.assertIs(True, is_lower_bound(web, [1], [1], ([0], 0)))

    def test_any_value(self):
        slopes = [1, 0, -1]
        things = no_integers() + [
            0, 5, [slopes, 5], (slopes,), (slopes, 5, 5), (5, slopes), ((1, 0, -1), 5), (slopes, "5"), (slopes, True),
            slopes, ("cycle", [(0, 1)]), ("potential", [1, 0, -1], 5), looped_list(), (looped_list(), 5), (slopes, slopes),
        ]
        things += [(wrong, 5) for wrong in no_rows(slopes, no_integers() + [2, -2, 10 ** 60, 10 ** 5000])]
        things += [(slopes, wrong) for wrong in no_integers() + [4, 6, -5, 10 ** 5000, -10 ** 60]]
        for thing in things:
            self.check(False, thing)
            self.check(False, thing, fixed=[1])
        self.check(False, ([True, 0, -1], 5))
        self.check(True, (slopes, 5))


class WrongArguments(unittest.TestCase):
    FAULTS = [
        ("before", InvalidGains, [0, None]), ("after", InvalidGains, [1]), ("weights", InvalidWeights, [1, 1, 0]),
        ("fixed", InvalidFixed, [0, 0]),
    ]

    def good(self, modulus=0, **more):
        return {"web": chain(modulus), "before": [0, 0], "after": [1, 1], "weights": None, "fixed": (), **more}

    def test_which_exception_comes_first(self):
        for modulus in (0, 2, 60):
            check_order(self, lower_bound, self.good(modulus), self.FAULTS)
            check_order(self, is_lower_bound, self.good(modulus, thing=Hostile()), self.FAULTS)

    def test_the_modulus_comes_last(self):
        for modulus in range(2, 61):
            for fixed in ((), [0, 1]):
                good = self.good(modulus, fixed=fixed)
                check_raises_count(self, InvalidModulus, modulus, lambda: lower_bound(**good))
                for thing in (Hostile(), None, ([0, 0, 0], 0)):
                    check_raises_count(self, InvalidModulus, modulus, lambda: is_lower_bound(**good, thing=thing))

    def test_any_value(self):
        wrong = no_rows([0, 1], no_integers())
        for function, more in ((lower_bound, {}), (is_lower_bound, {"thing": None})):
            check_each_value(self, function, self.good(**more), "before", InvalidGains, wrong)
            check_each_value(self, function, self.good(**more), "after", InvalidGains, wrong)
            check_each_value(self, function, self.good(**more), "weights", InvalidWeights, no_weights(3))
            check_each_value(self, function, self.good(**more), "fixed", InvalidFixed, no_fixed(3))


if __name__ == "__main__":
    unittest.main()
