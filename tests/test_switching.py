"""Switching: points [9] and [10], and that the order of switches does not matter, point [4] (a)."""

import inspect
import random
import unittest

from tests.oracles import moved, plain_sum, reduced
from tests.samples import (
    Hostile, check_each_value, check_order, check_raises, no_integers, no_residues, no_rows, numbers_outside,
    random_gains, random_potential, random_walk, random_webs,
)
from turnedties.errors import InvalidAmount, InvalidGains, InvalidNode, InvalidPotential, InvalidSwitch
from turnedties.residues import is_gains, is_potential
from turnedties.switching import added, negated, potential_of, switch, switched
from turnedties.webs import Web, ends_of


def ring(modulus=5):
    return Web(3, [(0, 1), (1, 2), (2, 0)], modulus=modulus)


class Examples(unittest.TestCase):
    def test_switch(self):
        self.assertEqual([3, 2, 1], switch(ring(), [1, 2, 3], 0, 2))

    def test_potentials(self):
        potential = potential_of(ring(), [(0, 2), (2, 3), (2, 1)])
        self.assertEqual(
            [[2, 0, 4], [3, 3, 0], [3, 1, 0], [3, 0, 1]],
            [
                potential, switched(ring(), [1, 2, 3], potential), added(ring(), potential, [1, 1, 1]),
                negated(ring(), potential),
            ],
        )

    def test_invalid_switch(self):
        entry = (2, 1)
        check_raises(self, InvalidSwitch, entry, lambda: potential_of(Web(2), [(0, 1), entry, (True, 1)]))


class Interface(unittest.TestCase):
    def test_arguments(self):
        self.assertEqual("(web, gains, node, amount)", str(inspect.signature(switch)))
        self.assertEqual("(web, gains, potential)", str(inspect.signature(switched)))
        self.assertEqual("(web, switches)", str(inspect.signature(potential_of)))
        self.assertEqual("(web, potential, other)", str(inspect.signature(added)))
        self.assertEqual("(web, potential)", str(inspect.signature(negated)))

    def test_functions_are_defined_in_the_file(self):
        for function in (switch, switched, potential_of, added, negated):
            self.assertEqual("turnedties.switching", function.__module__)


class Switch(unittest.TestCase):
    def test_edges_that_leave_and_edges_that_enter(self):
        web = Web(3, [(0, 1), (1, 0), (1, 2), (2, 0)])
        self.assertEqual([7, -7, 0, -7], switch(web, [0, 0, 0, 0], 0, 7))
        self.assertEqual([-7, 7, 7, 0], switch(web, [0, 0, 0, 0], 1, 7))
        self.assertEqual([1, 2, -4, 11], switch(web, [1, 2, 3, 4], 2, 7))
        self.assertEqual([-6, 9, 3, 11], switch(web, [1, 2, 3, 4], 0, -7))

    def test_loops_stay(self):
        web = Web(2, [(0, 0), (0, 1), (1, 1)], modulus=5)
        self.assertEqual([3, 1, 4], switch(web, [3, 3, 4], 0, 3))
        self.assertEqual([3, 0, 4], switch(web, [3, 3, 4], 1, 3))

    def test_parallel_edges(self):
        web = Web(2, [(0, 1), (0, 1), (1, 0)], modulus=4)
        self.assertEqual([3, 0, 1], switch(web, [0, 1, 0], 0, 3))
        self.assertEqual([1, 2, 3], switch(web, [0, 1, 0], 1, 3))

    def test_a_node_without_edges(self):
        self.assertEqual([2], switch(Web(3, [(0, 1)], modulus=3), [2], 2, 1))
        self.assertEqual([], switch(Web(1), [], 0, 9))

    def test_amounts_of_many_digits(self):
        big = 10 ** 59 + 7
        self.assertEqual([big, 0, -big], switch(ring(0), [0, 0, 0], 0, big))
        self.assertEqual([-2 * big, 0, 2 * big], switch(ring(0), [-big, 0, big], 0, -big))
        for modulus in range(2, 61):
            for amount in (big, -big, 10 ** 60, modulus, -1, 0, 1 - modulus, 2 * modulus + 1):
                expected = [(1 + amount) % modulus, 1, (1 - amount) % modulus]
                self.assertEqual(expected, switch(ring(modulus), [1, 1, 1], 0, amount))

    def test_random_switches(self):
        source = random.Random(91)
        for web in random_webs(150, 91):
            gains = random_gains(source, web)
            kept = list(gains)
            node, amount = source.randrange(web.size()), source.randint(-10 ** 20, 10 ** 20)
            after = switch(web, gains, node, amount)
            self.assertTrue(is_gains(web, after))
            for (tail, head), old, new in zip(web.edges(), gains, after):
                change = amount * ((tail == node) - (head == node))
                self.assertEqual(reduced(web, old + change), new)
            self.assertEqual(gains, switch(web, after, node, -amount))
            self.assertEqual(kept, gains)
            self.assertIsNot(gains, after)

    def test_which_exception_comes_first(self):
        check_order(
            self, switch, {"web": ring(), "gains": [1, 2, 3], "node": 0, "amount": 1},
            [("gains", InvalidGains, [5, 0, 0]), ("node", InvalidNode, 3), ("amount", InvalidAmount, "1")],
        )

    def test_wrong_arguments(self):
        for modulus in (0, 5):
            good = {"web": ring(modulus), "gains": [1, 2, 3], "node": 0, "amount": 1}
            wrong = no_rows([1, 2, 3], no_residues(modulus))
            check_each_value(self, switch, good, "gains", InvalidGains, wrong)
            check_each_value(self, switch, good, "node", InvalidNode, no_integers() + numbers_outside(0, 2))
            check_each_value(self, switch, good, "amount", InvalidAmount, no_integers())


class Switched(unittest.TestCase):
    def test_a_potential_leads_there(self):
        self.assertEqual([1 + 7 - 20, 2 + 20 + 3, 3 - 3 - 7], switched(ring(0), [1, 2, 3], [7, 20, -3]))
        self.assertEqual([1, 2], switched(Web(2, [(0, 0), (0, 1)], modulus=3), [1, 2], [1, 1]))
        source = random.Random(101)
        for web in random_webs(150, 101):
            gains, potential = random_gains(source, web), random_potential(source, web)
            kept = [list(gains), list(potential)]
            after = switched(web, gains, potential)
            self.assertEqual(moved(web, gains, potential), after)
            self.assertEqual(kept, [gains, potential])
            self.assertEqual(gains, switched(web, after, negated(web, potential)))
            self.assertEqual(gains, switched(web, gains, [0] * web.size()))
            self.assertIsNot(gains, switched(web, gains, [0] * web.size()))

    def test_closed_walks_keep_their_sums(self):
        source = random.Random(102)
        for web in random_webs(150, 102):
            gains, walk = random_gains(source, web), random_walk(source, web)
            if walk is not None:
                start, finish = ends_of(web, walk)
                closed = walk + web.path(finish, start)
                after = switched(web, gains, random_potential(source, web))
                self.assertEqual(plain_sum(web, gains, closed), plain_sum(web, after, closed))

    def test_which_exception_comes_first(self):
        check_order(
            self, switched, {"web": ring(), "gains": [1, 2, 3], "potential": [0, 0, 0]},
            [("gains", InvalidGains, (1, 2, 3)), ("potential", InvalidPotential, [0, 0])],
        )

    def test_wrong_arguments(self):
        for modulus in (0, 5):
            good = {"web": ring(modulus), "gains": [1, 2, 3], "potential": [3, 2, 1]}
            wrong = no_rows([1, 2, 3], no_residues(modulus))
            check_each_value(self, switched, good, "gains", InvalidGains, wrong)
            check_each_value(self, switched, good, "potential", InvalidPotential, wrong)


class PotentialOf(unittest.TestCase):
    def test_amounts_are_summed_at_each_node(self):
        self.assertEqual([0, 0, 0], potential_of(ring(), []))
        self.assertEqual([-5, 0, 12], potential_of(ring(0), [(2, 5), (0, -5), (2, 7)]))
        self.assertEqual([0, 0, 2], potential_of(ring(), [(2, 5), (0, -5), (2, 7)]))
        self.assertEqual([0, 10 ** 60, 0], potential_of(ring(0), [(1, 10 ** 59)] * 10))
        self.assertEqual([0, 4, 0], potential_of(ring(), [(1, -10 ** 60), (1, -1)]))

    def test_switches_in_any_order_lead_where_their_potential_leads(self):
        source = random.Random(103)
        for web in random_webs(150, 103):
            gains = random_gains(source, web)
            switches = [
                (source.randrange(web.size()), source.randint(-10 ** 20, 10 ** 20))
                for number in range(source.randint(0, 12))
            ]
            kept = list(switches)
            potential = potential_of(web, switches)
            self.assertTrue(is_potential(web, potential))
            self.assertEqual(kept, switches)
            source.shuffle(switches)
            self.assertEqual(potential, potential_of(web, switches))
            after = gains
            for node, amount in switches:
                after = switch(web, after, node, amount)
            self.assertEqual(after, switched(web, gains, potential))

    def test_the_first_entry_that_is_no_switch(self):
        entries = [entry for entry in no_integers() if not (isinstance(entry, tuple) and entry == (0, 1))]
        entries += [0, 1, [0, 1], (0,), (0, 1, 1), ((0, 1),), (Hostile(), 1), (0, Hostile())]
        entries += [(node, 1) for node in no_integers() + numbers_outside(0, 2)]
        entries += [(0, amount) for amount in no_integers()]
        for entry in entries:
            for switches in ([entry], [(0, 1), entry], [entry, (0, 1)], [(2, -1), entry, (9, 9), None]):
                check_raises(self, InvalidSwitch, entry, lambda: potential_of(ring(), switches))

    def test_what_is_no_list(self):
        others = [thing for thing in no_integers() if not isinstance(thing, list)]
        for switches in others + [((0, 1),), (0, 1), {(0, 1): 1}, {(0, 1)}, 0, 1, "01"]:
            check_raises(self, InvalidSwitch, switches, lambda: potential_of(ring(), switches))


class AddedAndNegated(unittest.TestCase):
    def test_sums_and_negatives(self):
        self.assertEqual([8, -8, 10 ** 59], added(ring(0), [3, 0, 10 ** 59], [5, -8, 0]))
        self.assertEqual([3, 0, 0], added(ring(), [4, 1, 0], [4, 4, 0]))
        self.assertEqual([-3, 0, 10 ** 59], negated(ring(0), [3, 0, -10 ** 59]))
        self.assertEqual([0, 4, 1], negated(ring(), [0, 1, 4]))
        self.assertEqual([0, 1, 1], negated(ring(2), [0, 1, 1]))

    def test_random_sums(self):
        source = random.Random(104)
        for web in random_webs(100, 104):
            gains = random_gains(source, web)
            one, two = random_potential(source, web), random_potential(source, web)
            kept = [list(one), list(two)]
            both = added(web, one, two)
            self.assertTrue(is_potential(web, both))
            self.assertEqual(switched(web, switched(web, gains, one), two), switched(web, gains, both))
            self.assertEqual(both, added(web, two, one))
            self.assertEqual([0] * web.size(), added(web, one, negated(web, one)))
            self.assertEqual(kept, [one, two])

    def test_the_results_are_new(self):
        potential, zeros = [1, 2, 3], [0, 0, 0]
        self.assertIsNot(potential, added(ring(), potential, zeros))
        self.assertIsNot(zeros, added(ring(), zeros, zeros))
        self.assertIsNot(zeros, negated(ring(), zeros))

    def test_wrong_arguments(self):
        for modulus in (0, 5):
            good = {"web": ring(modulus), "potential": [1, 2, 3], "other": [3, 2, 1]}
            wrong = no_rows([1, 2, 3], no_residues(modulus))
            check_each_value(self, added, good, "potential", InvalidPotential, wrong)
            check_each_value(self, added, good, "other", InvalidPotential, wrong)
            del good["other"]
            check_each_value(self, negated, good, "potential", InvalidPotential, wrong)

    def test_which_exception_comes_first(self):
        check_order(
            self, added, {"web": ring(), "potential": [0, 0, 0], "other": [0, 0, 0]},
            [("potential", InvalidPotential, [0, 0]), ("other", InvalidPotential, [0, 0, 5])],
        )


if __name__ == "__main__":
    unittest.main()
