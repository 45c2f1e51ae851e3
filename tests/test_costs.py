"""Costs, cheapest and fewest potentials, and prices: points [13] and [14], and point [4] (b)."""

import inspect
import random
import unittest

from tests.oracles import (
    check_excluding, excluded_by_cycles, leading, moved, plain_cost, small_after, small_gains, small_webs,
)
from tests.samples import (
    Hostile, check_each_value, check_order, check_raises_count, looped_list, no_fixed, no_integers, no_residues,
    no_rows, no_weights, numbers_outside, random_fixed, random_gains, random_potential, random_webs,
)
from turnedties.costs import cheapest, cost, fewest, is_cheapest, priced
from turnedties.errors import InvalidFixed, InvalidGains, InvalidModulus, InvalidPotential, InvalidPrices, InvalidWeights
from turnedties.webs import Web


def ring(modulus=5):
    return Web(3, [(0, 1), (1, 2), (2, 0)], modulus=modulus)


def arguments(**others):
    """Arguments of cheapest; the potentials that lead there are [0, 3, 2] and those beside it."""
    return {"web": ring(), "before": [1, 2, 3], "after": [3, 3, 0], **others}


def small_tasks(count, seed):
    """Webs with gains before and after, weights and fixed nodes, and all potentials that lead there."""
    source = random.Random(seed)
    for web in small_webs(count, seed):
        before = small_gains(source, web)
        after = small_after(source, web, before)
        fixed = random_fixed(source, web) if source.random() < 0.5 else ()
        weights = source.choice([None, [source.randint(1, 4) for node in range(web.size())]])
        yield source, web, before, after, weights, fixed, leading(web, before, after, fixed)


def first_best(web, potentials, price):
    """The potential with the lowest price whose values at the first nodes are smallest, and the price."""
    firsts = [group[0] for group in web.components()]
    best = min(potentials, key=lambda potential: (price(potential), [potential[first] for first in firsts]))
    return "potential", best, price(best)


class Examples(unittest.TestCase):
    def test_cheapest(self):
        self.assertEqual(("potential", [2, 0, 4], 3), cheapest(ring(), [1, 2, 3], [3, 3, 0]))
        self.assertEqual(("potential", [3, 1, 0], 3), cheapest(ring(), [1, 2, 3], [3, 3, 0], weights=[1, 1, 9]))

    def test_fewest_and_priced(self):
        web = Web(2, [(0, 1), (0, 1)], modulus=3)
        self.assertEqual(("potential", [0, 2], 1), fewest(web, [0, 1], [1, 2]))
        self.assertEqual(("potential", [0, 2], 1), priced(web, [0, 1], [1, 2], [[0, 5, 9], [0, 4, 1]]))


class Interface(unittest.TestCase):
    def test_arguments(self):
        self.assertEqual("(web, potential, *, weights=None)", str(inspect.signature(cost)))
        self.assertEqual("(web, before, after, *, weights=None, fixed=())", str(inspect.signature(cheapest)))
        self.assertEqual("(web, before, after, thing, *, weights=None, fixed=())", str(inspect.signature(is_cheapest)))
        self.assertEqual("(web, before, after, *, fixed=())", str(inspect.signature(fewest)))
        self.assertEqual("(web, before, after, prices, *, fixed=())", str(inspect.signature(priced)))

    def test_functions_are_defined_in_the_file(self):
        for function in (cost, cheapest, is_cheapest, fewest, priced):
            self.assertEqual("turnedties.costs", function.__module__)


class Cost(unittest.TestCase):
    def test_sums_of_weight_times_size(self):
        self.assertEqual(9, cost(ring(0), [3, -4, 2]))
        self.assertEqual(3, cost(ring(), [3, 4, 0]))
        self.assertEqual(0, cost(ring(2), [0, 0, 0], weights=(9, 9, 9)))
        self.assertEqual(2 * 2 + 3 * 1, cost(ring(), [3, 4, 0], weights=[2, 3, 10 ** 59]))
        self.assertEqual(7 * 10 ** 118, cost(ring(0), [0, -10 ** 59, 0], weights=(1, 7 * 10 ** 59, 1)))

    def test_random_costs(self):
        source = random.Random(131)
        for web in random_webs(150, 131):
            potential = random_potential(source, web)
            kept = list(potential)
            weights = [source.randint(1, 10 ** 9) for node in range(web.size())]
            self.assertEqual(plain_cost(web, potential), cost(web, potential))
            self.assertEqual(cost(web, potential), cost(web, potential, weights=(1,) * web.size()))
            self.assertEqual(plain_cost(web, potential, weights), cost(web, potential, weights=weights))
            self.assertEqual(cost(web, potential, weights=weights), cost(web, potential, weights=tuple(weights)))
            self.assertEqual(kept, potential)

    def test_wrong_arguments(self):
        good = {"web": ring(), "potential": [0, 3, 2], "weights": [1, 2, 3]}
        check_order(
            self, cost, good, [("potential", InvalidPotential, [0, 3, 5]), ("weights", InvalidWeights, [1, 2, 0])],
        )
        check_each_value(self, cost, good, "potential", InvalidPotential, no_rows([0, 3, 2], no_residues(5)))
        check_each_value(self, cost, good, "weights", InvalidWeights, no_weights(3))


class Cheapest(unittest.TestCase):
    def test_small_webs(self):
        words = {"potential": 0, "cycle": 0, "fixed": 0}
        for source, web, before, after, weights, fixed, potentials in small_tasks(400, 132):
            result = cheapest(web, before, after, weights=weights, fixed=fixed)
            words[result[0]] += 1
            if potentials:
                expected = first_best(web, potentials, lambda potential: plain_cost(web, potential, weights))
                self.assertEqual(expected, result)
            else:
                closed = check_excluding(self, web, before, after, fixed, result)
                self.assertIs(excluded_by_cycles(web, before, after), closed)
        self.assertGreater(min(words.values()), 20)

    def test_ties_are_broken_by_the_smallest_value_at_the_first_node(self):
        web = Web(2, [(0, 1)])
        self.assertEqual(("potential", [-3, 0], 3), cheapest(web, [0], [-3]))
        self.assertEqual(("potential", [0, -3], 3), cheapest(web, [0], [3]))
        self.assertEqual(("potential", [0, 2], 2), cheapest(Web(2, [(0, 1)], modulus=4), [0], [2]))
        self.assertEqual(("potential", [0, 1], 1), cheapest(Web(2, [(0, 1)], modulus=5), [0], [4]))
        self.assertEqual(("potential", [0, 4], 1), cheapest(Web(2, [(0, 1)], modulus=5), [0], [1]))
        both = Web(4, [(3, 1), (2, 0)])
        self.assertEqual(("potential", [0, -7, -5, 0], 12), cheapest(both, [0, 0], [7, -5]))

    def test_values_that_lie_far_apart(self):
        far = 10 ** 59
        web = Web(3, [(0, 1), (1, 2)])
        self.assertEqual(("potential", [-2 * far, -far, 0], 3 * far), cheapest(web, [far, 0], [0, -far], fixed=[2]))
        self.assertEqual(("potential", [-far, 0, far], 2 * far), cheapest(web, [far, 0], [0, -far]))
        self.assertEqual(
            ("potential", [0, far, 2 * far], far * (3 + 2 * 1)), cheapest(web, [far, 0], [0, -far], weights=[9, 3, 1]),
        )

    def test_great_webs(self):
        source = random.Random(133)
        for web in random_webs(100, 133):
            before, potential = random_gains(source, web), random_potential(source, web)
            after = moved(web, before, potential)
            weights = [source.randint(1, 10 ** 12) for node in range(web.size())]
            kept = [list(before), list(after), list(weights)]
            word, best, total = cheapest(web, before, after, weights=weights)
            self.assertEqual("potential", word)
            self.assertEqual(after, moved(web, before, best))
            self.assertEqual(plain_cost(web, best, weights), total)
            self.assertLessEqual(total, plain_cost(web, potential, weights))
            self.check_beside(web, best, weights, total)
            self.assertIs(True, is_cheapest(web, before, after, (word, best, total), weights=tuple(weights)))
            self.assertEqual(kept, [before, after, weights])

    def check_beside(self, web, best, weights, total):
        """Without a modulus a cost that is lowest beside the constant is lowest everywhere."""
        for group in web.components():
            for by in (1, -1) if web.modulus() == 0 else range(web.modulus()):
                other = list(best)
                for node in group:
                    other[node] = best[node] + by
                    if web.modulus() != 0:
                        other[node] = other[node] % web.modulus()
                price = plain_cost(web, other, weights)
                if other[group[0]] < best[group[0]]:
                    self.assertGreater(price, total)
                self.assertGreaterEqual(price, total)

    def test_equal_arguments(self):
        expected = cheapest(ring(), [1, 2, 3], [3, 3, 0])
        for weights in (None, [1, 1, 1], (1, 1, 1)):
            for fixed in ((), []):
                result = cheapest(ring(), [1, 2, 3], [3, 3, 0], weights=weights, fixed=fixed)
                self.assertEqual(expected, result)
                result[1].append(1)
        self.assertEqual(("potential", [2, 0, 4], 3), cheapest(ring(), [1, 2, 3], [3, 3, 0]))


class IsCheapest(unittest.TestCase):
    def test_exactly_the_potentials_with_the_lowest_cost(self):
        for source, web, before, after, weights, fixed, potentials in small_tasks(120, 134):
            keywords = {"weights": weights, "fixed": fixed}
            costs = [plain_cost(web, potential, weights) for potential in potentials]
            for potential in leading(web, before, before, (), []):
                price = plain_cost(web, potential, weights)
                expected = potential in potentials and price == min(costs)
                self.assertIs(expected, is_cheapest(web, before, after, ("potential", potential, price), **keywords))
                if expected:
                    for other in (price + 1, price - 1, True, None, str(price), 10 ** 5000, [price], Hostile()):
                        thing = ("potential", potential, other)
                        self.assertIs(False, is_cheapest(web, before, after, thing, **keywords))

    def test_potentials_that_cheapest_does_not_return(self):
        web = Web(2, [(0, 1)])
        for constant in range(-5, 9):
            thing = ("potential", [constant, constant - 3], abs(constant) + abs(constant - 3))
            self.assertIs(0 <= constant <= 3, is_cheapest(web, [0], [3], thing))
        self.assertEqual([0, -3], cheapest(web, [0], [3])[1])

    def test_walks_are_no_cheapest_potentials(self):
        walk = [(0, 1), (1, 1), (2, 1)]
        for thing in (("cycle", walk), ("cycle", walk, 0), ("potential", [0, 0, 0], 0), ("potential", walk, 0)):
            self.assertIs(False, is_cheapest(ring(), [1, 2, 3], [0, 0, 0], thing))
        for thing in (("fixed", [(0, 1)]), ("fixed", [(0, 1)], 1), ("potential", [0, 3, 2], 4)):
            self.assertIs(False, is_cheapest(ring(), [1, 2, 3], [3, 3, 0], thing, fixed=[0, 1]))

    def test_any_value(self):
        best = [2, 0, 4]
        # The first row is the tuple itself, which is right.
        things = no_integers() + no_rows(["potential", best, 3], no_integers())[1:] + [
            0, 3, ["potential", best, 3], ("potential", best), ("potential", best, 3, 3), ("cost", best, 3), ("",) * 3,
            ("potential", tuple(best), 3), (best, "potential", 3), ("potential", 3, best), ("potential", looped_list(), 3),
        ]
        for entry in no_integers():
            things += [(entry, best, 3), ("potential", entry, 3), ("potential", best, entry), (entry, entry, entry)]
        for thing in things:
            self.assertIs(False, is_cheapest(**arguments(thing=thing)))
        self.assertIs(True, is_cheapest(**arguments(thing=("potential", best, 3))))


class Fewest(unittest.TestCase):
    def test_small_webs(self):
        words = {"potential": 0, "cycle": 0, "fixed": 0}
        for source, web, before, after, weights, fixed, potentials in small_tasks(400, 141):
            result = fewest(web, before, after, fixed=fixed)
            words[result[0]] += 1
            if potentials:
                expected = first_best(web, potentials, lambda potential: sum(value != 0 for value in potential))
                self.assertEqual(expected, result)
                self.assertIs(int, type(result[2]))
            else:
                closed = check_excluding(self, web, before, after, fixed, result)
                self.assertIs(excluded_by_cycles(web, before, after), closed)
        self.assertGreater(min(words.values()), 20)

    def test_ties(self):
        web = Web(3, [(0, 1), (1, 2)])
        self.assertEqual(("potential", [-9, 0, -2], 2), fewest(web, [0, 0], [-9, 2]))
        self.assertEqual(("potential", [0, 0, 5], 1), fewest(web, [0, 0], [0, -5]))
        far = 10 ** 59
        self.assertEqual(("potential", [-far, 0, 0], 1), fewest(web, [far, 0], [0, 0]))
        self.assertEqual(("potential", [0, 0, 0], 0), fewest(web, [far, 0], [far, 0]))


class Priced(unittest.TestCase):
    def test_small_webs(self):
        words = {"potential": 0, "cycle": 0, "fixed": 0}
        for source, web, before, after, weights, fixed, potentials in small_tasks(500, 142):
            if web.modulus() != 0:
                most = source.choice([1, 4, 10 ** 30])
                prices = [[source.randint(0, most) for value in range(web.modulus())] for node in range(web.size())]
                kept = [list(row) for row in prices]
                result = priced(web, before, after, prices, fixed=fixed)
                words[result[0]] += 1
                self.check(web, before, after, prices, fixed, potentials, result)
                self.assertEqual(kept, prices)
        self.assertGreater(min(words.values()), 20)

    def check(self, web, before, after, prices, fixed, potentials, result):
        if potentials:
            expected = first_best(
                web, potentials, lambda potential: sum(row[value] for row, value in zip(prices, potential))
            )
            self.assertEqual(expected, result)
        else:
            closed = check_excluding(self, web, before, after, fixed, result)
            self.assertIs(excluded_by_cycles(web, before, after), closed)

    def test_staying_may_have_a_price(self):
        web = Web(2, [(0, 1)], modulus=2)
        self.assertEqual(("potential", [1, 1], 0), priced(web, [1], [1], [[10 ** 30, 0], [10 ** 30, 0]]))
        self.assertEqual(("potential", [0, 0], 2 * 10 ** 30), priced(web, [1], [1], [[10 ** 30, 0]] * 2, fixed=[0]))

    def test_ties(self):
        web = Web(3, [(0, 1)], modulus=4)
        self.assertEqual(("potential", [0, 3, 0], 0), priced(web, [0], [1], [[0] * 4] * 3))
        self.assertEqual(("potential", [1, 0, 2], 5), priced(web, [0], [1], [[1, 0, 0, 0], [5] * 4, [3, 1, 0, 0]]))

    def no_prices(self, modulus):
        wrong = [None, True, 0, 1, "", {}, set(), ([0] * 3, [0] * 3), {0: [0] * 3, 1: [0] * 3}, object(), Hostile()]
        wrong += [[], [[0] * 3], [[0] * 3] * 3, looped_list(), [0, 0], [[0] * 3, None], [[0] * 3, (0, 0, 0)], len]
        wrong += [[(0, 0, 0), [0] * 3], [[0] * 3, {0: 0, 1: 1, 2: 2}], ["000", [0] * 3]]
        for entry in no_integers() + numbers_outside(0, 10 ** 30):
            wrong += [[[0, 0, 0], [0, 0, entry]], [[entry, 0, 0], [0, 0, 0]]]
        if modulus != 0:
            wrong += [[[0] * 3, [0] * 2], [[0] * 4, [0] * 3], [[], []], [[0] * 3, []]]
        return wrong

    def good(self, modulus):
        return {
            "web": Web(2, [(0, 1), (0, 1)], modulus=modulus), "before": [0, 1], "after": [1, 2],
            "prices": [[0, 5, 9], [0, 4, 1]], "fixed": [],
        }

    def test_any_value(self):
        for modulus in (0, 3):
            wrong = no_rows([0, 1], no_residues(modulus))
            check_each_value(self, priced, self.good(modulus), "before", InvalidGains, wrong)
            check_each_value(self, priced, self.good(modulus), "after", InvalidGains, wrong)
            check_each_value(self, priced, self.good(modulus), "prices", InvalidPrices, self.no_prices(modulus))
            check_each_value(self, priced, self.good(modulus), "fixed", InvalidFixed, no_fixed(2))

    def test_without_a_modulus_only_the_lengths_of_the_lists_of_prices_are_free(self):
        for prices in ([[], []], [[0], [0] * 100], [[10 ** 30], []], [[0, 5, 9], [0, 4, 1]]):
            good = {**self.good(0), "prices": prices}
            check_raises_count(self, InvalidModulus, 0, lambda: priced(**good))
            check_raises_count(self, InvalidModulus, 0, lambda: priced(**{**good, "after": [5, 5]}))

    def test_which_exception_comes_first(self):
        for modulus in (0, 3):
            check_order(
                self, priced, self.good(modulus),
                [
                    ("before", InvalidGains, [0]), ("after", InvalidGains, [0, True]),
                    ("prices", InvalidPrices, [[0, 5, 9]]), ("fixed", InvalidFixed, [0, 2]),
                ],
            )


class WrongArguments(unittest.TestCase):
    FAULTS = [
        ("before", InvalidGains, [1, 2, 5]), ("after", InvalidGains, [1, 2]), ("weights", InvalidWeights, [1, 1, 0]),
        ("fixed", InvalidFixed, [0, 0]),
    ]

    def test_which_exception_comes_first(self):
        for after in ([3, 3, 0], [0, 0, 0]):
            check_order(self, cheapest, arguments(after=after), self.FAULTS)
            check_order(self, is_cheapest, arguments(after=after, thing=Hostile()), self.FAULTS)
            check_order(self, fewest, arguments(after=after), self.FAULTS[:2] + self.FAULTS[3:])

    def test_any_value(self):
        wrong = no_rows([1, 2, 3], no_residues(5))
        for function, more in ((cheapest, {}), (is_cheapest, {"thing": None}), (fewest, {})):
            check_each_value(self, function, arguments(**more), "before", InvalidGains, wrong)
            check_each_value(self, function, arguments(**more), "after", InvalidGains, wrong)
            check_each_value(self, function, arguments(**more), "fixed", InvalidFixed, no_fixed(3))
            if function != fewest:
                check_each_value(self, function, arguments(**more), "weights", InvalidWeights, no_weights(3))


if __name__ == "__main__":
    unittest.main()
