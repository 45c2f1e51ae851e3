"""Potentials and walks between gains: point [11], and point [4] (a)."""

import inspect
import random
import unittest

from tests.oracles import (
    check_excluding, excluded_by_cycles, leading, moved, plain_sum, small_after, small_gains, small_webs, walk_ends,
)
from tests.samples import (
    Agreeing, Hostile, check_each_value, check_order, looped_list, no_fixed, no_integers, no_residues, no_rows,
    random_fixed, random_gains, random_potential, random_walk, random_webs,
)
from turnedties.equivalence import is_transform, transform
from turnedties.errors import InvalidFixed, InvalidGains
from turnedties.webs import Web


def ring(modulus=5):
    return Web(3, [(0, 1), (1, 2), (2, 0)], modulus=modulus)


def arguments(**others):
    """Arguments of transform; there are several webs in which they are right."""
    return {"web": ring(), "before": [1, 2, 3], "after": [3, 3, 0], "fixed": (), **others}


class Examples(unittest.TestCase):
    def test_transform(self):
        self.assertEqual(("potential", [0, 3, 2]), transform(ring(), [1, 2, 3], [3, 3, 0]))
        self.assertEqual("cycle", transform(ring(), [1, 2, 3], [0, 0, 0])[0])
        self.assertEqual("fixed", transform(ring(), [1, 2, 3], [3, 3, 0], fixed=[0, 1])[0])


class Interface(unittest.TestCase):
    def test_arguments(self):
        self.assertEqual("(web, before, after, *, fixed=())", str(inspect.signature(transform)))
        self.assertEqual("(web, before, after, thing, *, fixed=())", str(inspect.signature(is_transform)))

    def test_functions_are_defined_in_the_file(self):
        for function in (transform, is_transform):
            self.assertEqual("turnedties.equivalence", function.__module__)


class Transform(unittest.TestCase):
    def test_small_webs(self):
        source = random.Random(111)
        words = {"potential": 0, "cycle": 0, "fixed": 0}
        for web in small_webs(400, 111):
            before = small_gains(source, web)
            after = small_after(source, web, before)
            fixed = random_fixed(source, web)
            result = transform(web, before, after, fixed=fixed)
            words[result[0]] += 1
            self.check_small(web, before, after, fixed, result)
            self.assertIs(True, is_transform(web, before, after, result, fixed=fixed))
        self.assertGreater(min(words.values()), 20)

    def check_small(self, web, before, after, fixed, result):
        potentials = leading(web, before, after, fixed)
        if potentials:
            free = [group[0] for group in web.components() if not set(group) & set(fixed)]
            only = [potential for potential in potentials if all(potential[node] == 0 for node in free)]
            self.assertEqual([("potential", potential) for potential in only], [result])
        else:
            closed = check_excluding(self, web, before, after, fixed, result)
            self.assertIs(excluded_by_cycles(web, before, after), closed)

    def test_great_webs(self):
        source = random.Random(112)
        for web in random_webs(200, 112):
            before, potential = random_gains(source, web), random_potential(source, web)
            after = moved(web, before, potential)
            word, found = transform(web, before, after)
            self.assertEqual("potential", word)
            self.assertEqual(after, moved(web, before, found))
            for group in web.components():
                self.assertEqual(0, found[group[0]])
            fixed = random_fixed(source, web)
            for node in fixed:
                potential[node] = 0
            after = moved(web, before, potential)
            word, found = transform(web, before, after, fixed=fixed)
            self.assertEqual("potential", word)
            self.assertEqual(after, moved(web, before, found))
            self.assertEqual([0] * len(fixed), [found[node] for node in fixed])
            self.check_other_gains(web, before, random_gains(source, web), fixed)

    def check_other_gains(self, web, before, after, fixed):
        result = transform(web, before, after, fixed=fixed)
        self.assertIs(True, is_transform(web, before, after, result, fixed=fixed))
        if result[0] != "potential":
            check_excluding(self, web, before, after, fixed, result)

    def test_thirty_nodes_and_sixty_edges(self):
        edges = [(node, (node + 1) % 30) for node in range(30)] + [(node, (node + 7) % 30) for node in range(30)]
        web = Web(30, edges)
        potential = [0] + [(-1) ** node * 10 ** (2 * node) for node in range(1, 30)]
        before = [10 ** 59 - number for number in range(60)]
        after = moved(web, before, potential)
        self.assertEqual(("potential", potential), transform(web, before, after))
        self.assertEqual(("potential", potential), transform(web, before, after, fixed=[0]))
        after[59] += 1
        result = transform(web, before, after)
        self.assertTrue(check_excluding(self, web, before, after, (), result))

    def test_fixed_nodes(self):
        web = Web(4, [(0, 1), (1, 2)], modulus=5)
        self.assertEqual(("potential", [0, 4, 1, 0]), transform(web, [0, 0], [1, 3]))
        self.assertEqual(("potential", [4, 3, 0, 0]), transform(web, [0, 0], [1, 3], fixed=[2]))
        self.assertEqual(("potential", [4, 3, 0, 0]), transform(web, [0, 0], [1, 3], fixed=(3, 2)))
        self.assertEqual(("potential", [1, 0, 2, 0]), transform(web, [0, 0], [1, 3], fixed=[1]))
        self.assertEqual("fixed", transform(web, [0, 0], [1, 3], fixed=[3, 2, 1])[0])
        self.assertEqual(("potential", [0, 4, 0, 0]), transform(web, [0, 0], [1, 4], fixed=(2, 0)))

    def test_a_closed_walk_comes_before_a_walk_between_fixed_nodes(self):
        web = Web(4, [(0, 1), (2, 3), (2, 3)], modulus=3)
        self.assertEqual("fixed", transform(web, [0, 0, 0], [1, 2, 2], fixed=[0, 1])[0])
        self.assertEqual("cycle", transform(web, [0, 0, 0], [1, 2, 1], fixed=[0, 1])[0])
        self.assertEqual("cycle", transform(web, [0, 0, 0], [1, 2, 1], fixed=[0, 1, 2, 3])[0])

    def test_loops(self):
        web = Web(1, [(0, 0)], modulus=4)
        self.assertEqual(("potential", [0]), transform(web, [3], [3]))
        self.assertEqual(("cycle", [(0, 1)]), transform(web, [3], [1], fixed=[0]))

    def test_no_edges(self):
        self.assertEqual(("potential", [0]), transform(Web(1), [], []))
        self.assertEqual(("potential", [0] * 30), transform(Web(30, modulus=2), [], [], fixed=[29, 0]))

    def test_arguments_stay_and_results_are_new(self):
        for fixed in ([], [0], [2, 0]):
            before, after = [1, 2, 3], [3, 3, 0]
            kept = [list(before), list(after), list(fixed)]
            first, second = [transform(ring(), before, after, fixed=fixed) for again in range(2)]
            self.assertEqual(first, second)
            self.assertIsNot(first[1], second[1])
            first[1].append(7)
            self.assertEqual(second, transform(ring(), before, after, fixed=tuple(fixed)))
            self.assertEqual(kept, [before, after, fixed])


class IsTransform(unittest.TestCase):
    def check(self, expected, thing, **others):
        self.assertIs(expected, is_transform(**arguments(thing=thing, **others)))

    def test_potentials_need_not_be_0_at_first_nodes(self):
        for constant in range(5):
            potential = [constant, (3 + constant) % 5, (2 + constant) % 5]
            self.check(True, ("potential", potential))
            self.check(constant == 0, ("potential", potential), fixed=[0])
            self.check(constant == 2, ("potential", potential), fixed=(1,))
            self.check(False, ("potential", potential), fixed=[0, 1])
            self.check(False, ("potential", potential), after=[3, 3, 1])

    def test_what_is_no_potential(self):
        for thing in no_rows([0, 3, 2], no_residues(5)) + [[0, 3, 1], [3, 0, 2], [0, 3, 7], [0, -2, 2]]:
            self.check(False, ("potential", thing))
            self.check(False, ("potential", thing), fixed=[0])

    def test_closed_walks(self):
        web = Web(3, [(0, 1), (1, 2), (2, 0), (1, 1)], modulus=5)
        changed = {"web": web, "before": [1, 2, 3, 0], "after": [1, 2, 4, 1]}
        for walk in (
            [(0, 1), (1, 1), (2, 1)], [(2, -1), (1, -1), (0, -1)], [(1, 1), (2, 1), (0, 1)], [(3, 1)], [(3, -1)],
            [(0, 1), (1, 1), (2, 1)] * 4, [(0, 1), (3, 1), (3, 1), (0, -1)], [(3, 1)] * 101,
        ):
            self.check(True, ("cycle", walk), **changed)
            self.check(True, ("cycle", walk), fixed=[0, 1], **changed)
            self.check(False, ("fixed", walk), fixed=[0, 1, 2], **changed)
            self.check(False, ("cycle", walk), web=web, before=changed["before"], after=[2, 2, 2, 0])
        for walk in (
            [(0, 1), (1, 1), (2, 1)] * 5, [(0, 1), (0, -1)], [(3, 1), (3, -1)], [(3, 1)] * 5, [(0, 1)], [],
            [(0, 1), (1, 1), (2, 1), (3, 1)], ((3, 1),), [[3, 1]], [(3, True)], [(4, 1)], [(-1, 1)], [(3, 0)],
        ):
            self.check(False, ("cycle", walk), **changed)

    def test_walks_between_fixed_nodes(self):
        for walk in ([(0, 1)], [(0, -1)], [(2, -1), (1, -1)], [(0, 1), (0, -1), (0, 1)], [(1, 1), (2, 1)]):
            self.check(True, ("fixed", walk), fixed=[0, 1])
            self.check(True, ("fixed", walk), fixed=(2, 1, 0))
            self.check(False, ("fixed", walk), fixed=[0, 2])
            self.check(False, ("fixed", walk), fixed=[1])
            self.check(False, ("fixed", walk))
            self.check(False, ("cycle", walk), fixed=[0, 1])
            self.check(False, ("fixed", walk), fixed=[0, 1], after=[1, 2, 3])

    def test_walks_from_a_fixed_node_to_itself(self):
        walk = [(0, 1), (1, 1), (2, 1)]
        self.check(False, ("fixed", walk), fixed=[0, 1, 2], after=[3, 3, 1])
        self.check(True, ("cycle", walk), fixed=[0, 1, 2], after=[3, 3, 1])
        self.check(False, ("fixed", [(2, 1), (2, -1)]), fixed=[0, 1, 2], after=[3, 3, 1])

    def test_other_words(self):
        for word in no_integers() + ["", "Fixed", "fixed ", "fix", "cycle", "potential", "walk", 0, b"fixed", ("fixed",)]:
            self.check(False, (word, [(0, 1)]), fixed=[0, 1])
        for word in no_integers() + ["", "Cycle", "cycles", "fixed", "potential", 0, b"cycle"]:
            self.check(False, (word, [(0, 1), (1, 1), (2, 1)]), after=[3, 3, 1])

    def test_a_walk_between_fixed_nodes_counts_beside_a_closed_walk(self):
        self.check(True, ("fixed", [(0, 1)]), fixed=[0, 1], after=[3, 3, 1])
        self.check(True, ("cycle", [(0, 1), (1, 1), (2, 1)]), fixed=[0, 1], after=[3, 3, 1])

    def test_random_walks_exactly_as_they_are_defined(self):
        source = random.Random(113)
        for web in random_webs(300, 113):
            walk = random_walk(source, web)
            if walk is not None:
                before = random_gains(source, web)
                after = list(before)
                at = source.choice(walk)[0]
                after[at] = source.choice([after[at], random_gains(source, web)[at]])
                fixed = random_fixed(source, web)
                start, finish = walk_ends(web, walk)
                differ = plain_sum(web, before, walk) != plain_sum(web, after, walk)
                joins = start != finish and start in fixed and finish in fixed
                closed = is_transform(web, before, after, ("cycle", walk), fixed=fixed)
                self.assertIs(differ and start == finish, closed)
                self.assertIs(differ and joins, is_transform(web, before, after, ("fixed", walk), fixed=fixed))

    def test_all_small_potentials(self):
        source = random.Random(114)
        for web in small_webs(60, 114):
            before = small_gains(source, web)
            after = small_after(source, web, before)
            fixed = random_fixed(source, web)
            leads = leading(web, before, after, fixed)
            for potential in leading(web, before, before, (), []):
                accepted = is_transform(web, before, after, ("potential", potential), fixed=fixed)
                self.assertIs(potential in leads, accepted)

    def test_tuples_of_other_lengths_and_other_values(self):
        potential, walk = [0, 3, 2], [(0, 1), (1, 1), (2, 1)]
        things = no_integers() + [
            0, 1, 10 ** 5000, (), ("potential",), ("potential", potential, 0), ("potential", potential, potential),
            ["potential", potential], [("potential", potential)], (("potential", potential),), ("potential", None),
            "potential", ("potential", "potential"), potential, walk, (potential, "potential"), {"potential": potential},
            ("potential", looped_list()), ("cycle", looped_list()), looped_list(), ("potential", (0, 3, 2)),
        ]
        for word in no_integers() + ["Potential", "potential ", "cycles", "", "switched", 0, b"potential", ["potential"]]:
            things += [(word, potential), (word, walk)]
        for rest in no_integers() + [0, Hostile(), Agreeing()]:
            things += [("potential", rest), ("cycle", rest), ("fixed", rest), (rest, rest)]
        for thing in things:
            self.check(False, thing)
            self.check(False, thing, fixed=[0, 2], after=[3, 3, 0])
        self.check(True, ("potential", potential))

    def test_things_stay(self):
        thing = ("potential", [0, 3, 2])
        self.check(True, thing)
        self.assertEqual(("potential", [0, 3, 2]), thing)


class WrongArguments(unittest.TestCase):
    FAULTS = [
        ("before", InvalidGains, [1, 2, 5]), ("after", InvalidGains, [1, 2]), ("fixed", InvalidFixed, [0, 0]),
    ]

    def test_which_exception_comes_first(self):
        check_order(self, transform, arguments(), self.FAULTS)
        check_order(self, is_transform, arguments(thing=None), self.FAULTS)
        check_order(self, is_transform, arguments(thing=Hostile()), self.FAULTS)
        check_order(self, transform, arguments(after=[0, 0, 0]), self.FAULTS)

    def test_any_value(self):
        for function, more in ((transform, {}), (is_transform, {"thing": ("potential", [0, 3, 2])})):
            for modulus in (0, 5):
                good = arguments(web=ring(modulus), **more)
                wrong = no_rows([1, 2, 3], no_residues(modulus))
                check_each_value(self, function, good, "before", InvalidGains, wrong)
                check_each_value(self, function, good, "after", InvalidGains, wrong)
                check_each_value(self, function, good, "fixed", InvalidFixed, no_fixed(3))

    def test_fixed_is_passed_by_name_only(self):
        self.assertRaises(TypeError, transform, ring(), [1, 2, 3], [3, 3, 0], [0])
        self.assertRaises(TypeError, is_transform, ring(), [1, 2, 3], [3, 3, 0], None, [0])


if __name__ == "__main__":
    unittest.main()
