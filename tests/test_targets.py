"""Targets for some of the edges: points [16] and [17], and point [4] (c)."""

import inspect
import random
import unittest

from tests.oracles import (
    check_excluding, leading, moved, plain_cost, plain_sum, small_after, small_gains, small_webs, walk_ends,
)
from tests.samples import (
    Agreeing, Hostile, check_each_value, check_order, looped_list, no_fixed, no_integers, no_residues, no_rows,
    no_weights, numbers_outside, random_fixed, random_gains, random_potential, random_walk, random_webs, shuffled,
)
from turnedties.costs import cheapest
from turnedties.equivalence import transform
from turnedties.errors import InvalidFixed, InvalidGains, InvalidTarget, InvalidWeights
from turnedties.targets import is_reach, reach, reach_cheapest, unmet
from turnedties.webs import Web


def ring(modulus=5):
    return Web(3, [(0, 1), (1, 2), (2, 0)], modulus=modulus)


def arguments(**others):
    """Arguments of reach; the potential is [0, 1, 3]."""
    return {"web": ring(), "gains": [1, 2, 3], "target": {0: 0, 1: 0}, "fixed": (), **others}


def groups_of(web, target):
    """The components of the web of the target."""
    return Web(web.size(), [web.edge(number) for number in target]).components()


def small_tasks(count, seed):
    """Webs with gains, targets in any order, fixed nodes, and all potentials that meet the target."""
    source = random.Random(seed)
    for web in small_webs(count, seed):
        gains = small_gains(source, web)
        after = small_after(source, web, gains)
        numbers = source.sample(range(len(web)), source.randint(0, len(web)))
        fixed = random_fixed(source, web) if source.random() < 0.7 else ()
        yield source, web, gains, {number: after[number] for number in numbers}, fixed


def after_of(gains, target):
    """Gains that are as the target says, and the old ones elsewhere."""
    return [target.get(number, gain) for number, gain in enumerate(gains)]


def meeting(web, gains, target, fixed=()):
    """All potentials that meet the target and respect the fixed nodes."""
    return leading(web, gains, after_of(gains, target), fixed, list(target))


class Examples(unittest.TestCase):
    def test_reach(self):
        self.assertEqual(("potential", [0, 1, 3]), reach(ring(), [1, 2, 3], {0: 0, 1: 0}))
        self.assertEqual([0], unmet(ring(), [1, 2, 3], {0: 0, 1: 2}))
        self.assertEqual("cycle", reach(ring(), [1, 2, 3], {0: 0, 1: 0, 2: 0})[0])

    def test_reach_cheapest(self):
        self.assertEqual(("potential", [0, 1, 3], 3), reach_cheapest(ring(), [1, 2, 3], {0: 0, 1: 0}))


class Interface(unittest.TestCase):
    def test_arguments(self):
        self.assertEqual("(web, gains, target, *, fixed=())", str(inspect.signature(reach)))
        self.assertEqual("(web, gains, target, thing, *, fixed=())", str(inspect.signature(is_reach)))
        self.assertEqual("(web, gains, target)", str(inspect.signature(unmet)))
        self.assertEqual("(web, gains, target, *, weights=None, fixed=())", str(inspect.signature(reach_cheapest)))

    def test_functions_are_defined_in_the_file(self):
        for function in (reach, is_reach, unmet, reach_cheapest):
            self.assertEqual("turnedties.targets", function.__module__)


class Reach(unittest.TestCase):
    def test_small_webs(self):
        words = {"potential": 0, "cycle": 0, "fixed": 0}
        for source, web, gains, target, fixed in small_tasks(800, 161):
            result = reach(web, gains, target, fixed=fixed)
            words[result[0]] += 1
            potentials = meeting(web, gains, target, fixed)
            if potentials:
                free = [group[0] for group in groups_of(web, target) if not set(group) & set(fixed)]
                only = [potential for potential in potentials if all(potential[node] == 0 for node in free)]
                self.assertEqual([("potential", potential) for potential in only], [result])
            else:
                after = after_of(gains, target)
                closed = check_excluding(self, web, gains, after, fixed, result, list(target))
                self.assertIs(meeting(web, gains, target) == [], closed)
            self.assertIs(True, is_reach(web, gains, target, result, fixed=fixed))
        self.assertGreater(min(words.values()), 20)

    def test_great_webs_with_targets_in_any_order(self):
        source = random.Random(162)
        for web in random_webs(150, 162):
            gains = random_gains(source, web)
            after = moved(web, gains, random_potential(source, web))
            target = {number: after[number] for number in range(len(web))}
            self.assertEqual(transform(web, gains, after), reach(web, gains, shuffled(source, target)))
            target = {number: after[number] for number in range(len(web)) if source.random() < 0.5}
            kept = [list(gains), list(target.items())]
            word, potential = reach(web, gains, target)
            self.assertEqual("potential", word)
            reached = moved(web, gains, potential)
            self.assertEqual(target, {number: reached[number] for number in target})
            self.assertEqual([0] * len(groups_of(web, target)), [potential[g[0]] for g in groups_of(web, target)])
            self.assertEqual(kept, [gains, list(target.items())])
            self.check_order_of_the_dict(source, web, gains, random_gains(source, web))

    def check_order_of_the_dict(self, source, web, gains, wanted):
        target = {number: wanted[number] for number in range(len(web)) if source.random() < 0.7}
        fixed = random_fixed(source, web)
        expected = reach(web, gains, target, fixed=fixed)
        for again in range(3):
            self.assertEqual(expected, reach(web, gains, shuffled(source, target), fixed=fixed))
        self.assertIs(True, is_reach(web, gains, shuffled(source, target), expected, fixed=fixed))
        if expected[0] != "potential":
            check_excluding(self, web, gains, after_of(gains, target), fixed, expected, list(target))

    def test_components_are_those_of_the_web_of_the_target(self):
        self.assertEqual(("potential", [0, 0, 0]), reach(ring(), [1, 2, 3], {}))
        self.assertEqual(("potential", [0, 0, 0]), reach(ring(), [1, 2, 3], {}, fixed=[0, 1, 2]))
        self.assertEqual(("potential", [0, 0, 2]), reach(ring(), [1, 2, 3], {1: 0}))
        self.assertEqual(("potential", [0, 3, 0]), reach(ring(), [1, 2, 3], {1: 0}, fixed=[2]))
        self.assertEqual(("potential", [0, 3, 0]), reach(ring(), [1, 2, 3], {1: 0}, fixed=(0, 2)))
        self.assertEqual("fixed", reach(ring(), [1, 2, 3], {1: 0}, fixed=[1, 2])[0])
        self.assertEqual("fixed", reach(ring(), [1, 2, 3], {1: 0, 2: 1}, fixed=[1, 2, 0])[0])

    def test_walks_have_the_numbers_of_the_web(self):
        web = Web(2, [(0, 1), (0, 1), (1, 0), (0, 1)])
        word, walk = reach(web, [1, 2, 3, 4], {3: 0, 1: 0})
        self.assertEqual(("cycle", [1, 3]), (word, sorted(number for number, way in walk)))
        self.assertEqual("fixed", reach(web, [1, 2, 3, 4], {2: 0}, fixed=[0, 1])[0])
        self.assertIn(reach(web, [1, 2, 3, 4], {2: 0}, fixed=[0, 1])[1], ([(2, 1)], [(2, -1)]))
        loops = Web(1, [(0, 0), (0, 0)])
        self.assertIn(reach(loops, [1, 1], {1: 0}), [("cycle", [(1, 1)]), ("cycle", [(1, -1)])])
        self.assertEqual(("potential", [0]), reach(loops, [1, 1], {1: 1}))

    def test_a_closed_walk_comes_before_a_walk_between_fixed_nodes(self):
        web = Web(4, [(0, 1), (2, 3), (2, 3)], modulus=3)
        self.assertEqual("cycle", reach(web, [0, 0, 0], {2: 1, 1: 2, 0: 1}, fixed=[0, 1])[0])
        self.assertEqual("fixed", reach(web, [0, 0, 0], {2: 1, 0: 1}, fixed=[0, 1])[0])

    def test_results_are_new(self):
        first = reach(**arguments())
        first[1].append(7)
        self.assertEqual(("potential", [0, 1, 3]), reach(**arguments()))


class IsReach(unittest.TestCase):
    def check(self, expected, thing, **others):
        self.assertIs(expected, is_reach(**arguments(thing=thing, **others)))

    def test_all_small_potentials(self):
        for source, web, gains, target, fixed in small_tasks(60, 163):
            potentials = meeting(web, gains, target, fixed)
            for potential in meeting(web, gains, {}):
                accepted = is_reach(web, gains, target, ("potential", potential), fixed=fixed)
                self.assertIs(potential in potentials, accepted)

    def test_random_walks_exactly_as_they_are_defined(self):
        source = random.Random(164)
        words = {"cycle": 0, "fixed": 0}
        for web in random_webs(600, 164):
            walk = random_walk(source, web)
            if walk is not None:
                gains, wanted = random_gains(source, web), random_gains(source, web)
                target = {number: wanted[number] for number in range(len(web)) if source.random() < 0.85}
                fixed = random_fixed(source, web)
                start, finish = walk_ends(web, walk)
                inside = all(number in target for number, way in walk)
                differ = inside and plain_sum(web, gains, walk) != plain_sum(web, target, walk)
                joins = start != finish and start in fixed and finish in fixed
                expected = {"cycle": differ and start == finish, "fixed": differ and joins}
                for word in words:
                    words[word] += expected[word]
                    self.assertIs(expected[word], is_reach(web, gains, target, (word, walk), fixed=fixed))
        self.assertGreater(min(words.values()), 5)

    def test_walks_outside_of_the_target_are_not_accepted(self):
        web = Web(2, [(0, 1), (0, 1), (1, 1), (1, 0)], modulus=5)
        task = {"web": web, "gains": [1, 2, 3, 4], "target": {0: 0, 1: 0}}
        self.check(True, ("cycle", [(0, 1), (1, -1)]), **task)
        self.check(False, ("cycle", [(0, 1), (2, 1), (1, -1)]), **task)
        self.check(False, ("cycle", [(0, 1), (3, 1)]), **task)
        self.check(False, ("cycle", [(0, 1), (1, -1), (0, 1), (3, 1), (3, -1), (0, -1)]), **task)
        self.check(False, ("cycle", [(2, 1)]), **task)
        self.check(True, ("cycle", [(2, 1)]), **{**task, "target": {2: 0}})
        self.check(True, ("fixed", [(0, 1)]), fixed=[0, 1], **task)
        self.check(False, ("fixed", [(3, 1)]), fixed=[0, 1], **task)
        self.check(False, ("fixed", [(0, 1), (2, 1)]), fixed=[0, 1], **task)

    def test_latitude(self):
        for constant in range(5):
            potential = [constant, (1 + constant) % 5, (3 + constant) % 5]
            self.check(True, ("potential", potential))
            self.check(constant == 2, ("potential", potential), fixed=(2,))
        self.check(True, ("potential", [2, 3, 4]), target={0: 0})
        self.check(True, ("potential", [4, 4, 4]), target={})
        self.check(True, ("fixed", [(0, 1)]), target={0: 0, 1: 0, 2: 0}, fixed=[0, 1])
        self.check(True, ("cycle", [(0, 1), (1, 1), (2, 1)]), target={0: 0, 1: 0, 2: 0}, fixed=[0, 1])

    def test_any_value(self):
        potential, walk = [0, 1, 3], [(0, 1), (1, 1), (2, 1)]
        things = no_integers() + [
            0, (), ("potential",), ("potential", potential, 0), ["potential", potential], ("cycle", looped_list()),
            potential, walk, (potential, "potential"), ("Potential", potential), ("potential", walk), ("cycle", potential),
        ]
        for rest in no_integers() + [0, Hostile(), Agreeing()]:
            things += [("potential", rest), ("cycle", rest), ("fixed", rest), (rest, potential), (rest, walk), (rest, rest)]
        things += [("potential", row) for row in no_rows(potential, no_residues(5))]
        for thing in things:
            self.check(False, thing)
            self.check(False, thing, target={0: 0, 1: 0, 2: 1}, fixed=[0, 2])
        self.check(True, ("potential", potential))


class Unmet(unittest.TestCase):
    def test_in_ascending_order(self):
        web = Web(2, [(0, 1)] * 12)
        gains = list(range(12))
        target = {11: 0, 3: 3, 0: 9, 7: 7, 5: 4, 10: -10, 1: 1}
        self.assertEqual([0, 5, 10, 11], unmet(web, gains, target))
        self.assertEqual([0, 5, 10, 11], unmet(web, gains, dict(reversed(target.items()))))
        self.assertEqual([], unmet(web, gains, {}))
        self.assertEqual([11, 3, 0, 7, 5, 10, 1], list(target))

    def test_random_targets(self):
        for source, web, gains, target, fixed in small_tasks(100, 165):
            expected = [number for number in range(len(web)) if number in target and target[number] != gains[number]]
            self.assertEqual(expected, unmet(web, gains, target))


class ReachCheapest(unittest.TestCase):
    def test_small_webs(self):
        words = {"potential": 0, "cycle": 0, "fixed": 0}
        for source, web, gains, target, fixed in small_tasks(800, 171):
            weights = source.choice([None, [source.randint(1, 4) for node in range(web.size())]])
            result = reach_cheapest(web, gains, target, weights=weights, fixed=fixed)
            words[result[0]] += 1
            potentials = meeting(web, gains, target, fixed)
            if potentials:
                firsts = [group[0] for group in groups_of(web, target)]
                best = min(
                    potentials,
                    key=lambda potential: (plain_cost(web, potential, weights), [potential[node] for node in firsts]),
                )
                self.assertEqual(("potential", best, plain_cost(web, best, weights)), result)
            else:
                closed = check_excluding(self, web, gains, after_of(gains, target), fixed, result, list(target))
                self.assertIs(meeting(web, gains, target) == [], closed)
        self.assertGreater(min(words.values()), 20)

    def test_ties_are_broken_in_the_web_of_the_target(self):
        web = Web(4, [(0, 1), (1, 2), (2, 3)])
        self.assertEqual(("potential", [0, -2, -3, 0], 5), reach_cheapest(web, [0, 0, 0], {0: 2, 2: -3}))
        self.assertEqual(("potential", [0, -2, 0, 3], 5), reach_cheapest(web, [0] * 3, {0: 2, 2: -3}, fixed=[2]))
        self.assertEqual(("potential", [0, 0, 0, 0], 0), reach_cheapest(web, [5, 6, 7], {}, weights=(9, 9, 9, 9)))

    def test_targets_for_all_edges(self):
        source = random.Random(172)
        for web in random_webs(100, 172):
            gains = random_gains(source, web)
            after = source.choice([moved(web, gains, random_potential(source, web)), random_gains(source, web)])
            target = shuffled(source, dict(enumerate(after)))
            weights = [source.randint(1, 10 ** 12) for node in range(web.size())]
            fixed = random_fixed(source, web)
            expected = cheapest(web, gains, after, weights=weights, fixed=fixed)
            result = reach_cheapest(web, gains, target, weights=tuple(weights), fixed=fixed)
            self.assertEqual(expected[0], result[0])
            if result[0] == "potential":
                self.assertEqual(expected, result)
            else:
                self.assertIs(True, is_reach(web, gains, target, result, fixed=fixed))


class WrongArguments(unittest.TestCase):
    FAULTS = [
        ("gains", InvalidGains, [1, 2, 5]), ("target", InvalidTarget, {3: 0}), ("weights", InvalidWeights, [1, 1, 0]),
        ("fixed", InvalidFixed, [0, 0]),
    ]

    def no_targets(self, modulus):
        wrong = [thing for thing in no_integers() if not isinstance(thing, dict)] + [0, [0, 0, 0], ((0, 0),), [(0, 0)]]
        keys = [True, False, None, "0", b"0", (0, 1), (0,), object(), len, *numbers_outside(0, 2)]
        for key in keys:
            wrong += [{key: 0}, {0: 0, key: 0} if key is not False else {key: 0}, {key: 1, 2: 1}]
        for gain in no_residues(modulus):
            wrong += [{0: gain}, {0: 0, 1: gain}, {2: gain, 1: 0, 0: 0}]
        return wrong

    def test_any_value(self):
        functions = ((reach, {}), (is_reach, {"thing": None}), (unmet, None), (reach_cheapest, {"weights": None}))
        for function, more in functions:
            for modulus in (0, 5):
                good = arguments(web=ring(modulus), **(more or {}))
                if more is None:
                    del good["fixed"]
                else:
                    check_each_value(self, function, good, "fixed", InvalidFixed, no_fixed(3))
                check_each_value(self, function, good, "gains", InvalidGains, no_rows([1, 2, 3], no_residues(modulus)))
                check_each_value(self, function, good, "target", InvalidTarget, self.no_targets(modulus))
        check_each_value(self, reach_cheapest, arguments(), "weights", InvalidWeights, no_weights(3))

    def test_which_exception_comes_first(self):
        without_weights = self.FAULTS[:2] + self.FAULTS[3:]
        for target in ({0: 0}, {0: 0, 1: 0, 2: 0}):
            check_order(self, reach, arguments(target=target), without_weights)
            check_order(self, is_reach, arguments(target=target, thing=Hostile()), without_weights)
            check_order(self, reach_cheapest, arguments(target=target), self.FAULTS)
            check_order(self, unmet, {"web": ring(), "gains": [1, 2, 3], "target": target}, self.FAULTS[:2])


if __name__ == "__main__":
    unittest.main()
