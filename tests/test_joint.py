"""Several webs that are switched together: point [22], and [4] (f) and (i)."""

import inspect
import random
import time
import unittest

from tests.oracles import every_potential, moved, reduced, small_gains, small_webs
from tests.renamed import Renamed
from tests.samples import (
    Agreeing, Hostile, check_each_value, check_order, check_raises, looped_list, no_fixed, no_integers, no_residues,
    no_rows, numbers_outside, random_fixed, random_gains, random_potential,
)
from turnedties.equivalence import transform
from turnedties.errors import InvalidFixed, InvalidGains, InvalidWebs
from turnedties.joint import is_transform_all, transform_all
from turnedties.webs import Web


def two_webs(modulus=5):
    return [Web(3, [(0, 1)], modulus=modulus), Web(3, [(2, 1), (1, 1)], modulus=modulus)]


def joint_edge(webs, number, edge, way):
    """The nodes where a joint step begins and ends."""
    return webs[number].edge(edge)[::way]


def joint_sum(webs, rows, walk):
    """The sum of a joint walk, step by step."""
    return reduced(webs[0], sum(way * rows[number][edge] for number, edge, way in walk))


def leading_all(webs, befores, afters, fixed=()):
    """All small potentials that lead from before to after in every web and respect the fixed nodes."""
    found = []
    for potential in every_potential(webs[0]):
        if all(potential[node] == 0 for node in fixed):
            if all(moved(web, before, potential) == after for web, before, after in zip(webs, befores, afters)):
                found.append(potential)
    return found


def joint_groups(webs):
    """The components of the joint graph, by their first nodes."""
    groups = [{node} for node in range(webs[0].size())]
    for web in webs:
        for tail, head in web.edges():
            one = next(group for group in groups if tail in group)
            two = next(group for group in groups if head in group)
            if one != two:
                groups = [group for group in groups if group not in (one, two)] + [one | two]
    return sorted(sorted(group) for group in groups)


def check_joint_walk(case, webs, befores, afters, fixed, result):
    """Check that the result is a joint walk that excludes all potentials; returns whether it is closed."""
    case.assertIs(tuple, type(result))
    word, walk = result
    case.assertIs(list, type(walk))
    case.assertGreater(len(walk), 0)
    case.assertTrue(all(type(step) is tuple and len(step) == 3 for step in walk))
    ends = [joint_edge(webs, *step) for step in walk]
    case.assertTrue(all(one[1] == two[0] for one, two in zip(ends, ends[1:])))
    case.assertNotEqual(joint_sum(webs, befores, walk), joint_sum(webs, afters, walk))
    start, finish = ends[0][0], ends[-1][1]
    if word == "cycle":
        case.assertEqual(start, finish)
    else:
        case.assertEqual("fixed", word)
        case.assertNotEqual(start, finish)
        case.assertTrue({start, finish} <= set(fixed))
    return word == "cycle"


def split_web(source, web, gains):
    """The edges of a web with their gains, spread over some webs; and where each edge went."""
    count = source.randint(1, 6)
    places = [source.randrange(count) for edge in web.edges()]
    webs = [
        Web(web.size(), [edge for edge, place in zip(web.edges(), places) if place == number], modulus=web.modulus())
        for number in range(count)
    ]
    numbers = range(len(web))
    return webs, [[row[at] for at in numbers if places[at] == number] for row in gains for number in range(count)]


def tasks(webs, seed, gains_of, potential_of):
    """Webs spread over some webs, with gains before and after, and fixed nodes."""
    source = random.Random(seed)
    for web in webs:
        before, potential = gains_of(source, web), potential_of(source, web)
        fixed = random_fixed(source, web) if source.random() < 0.5 else ()
        for node in fixed:
            if source.random() < 0.7:
                potential[node] = 0
        after = moved(web, before, potential)
        if after and source.random() < 0.2:
            at = source.randrange(len(after))
            after[at] = reduced(web, after[at] + 1)
        parts, rows = split_web(source, web, (before, after))
        yield source, web, before, after, fixed, parts, rows[:len(parts)], rows[len(parts):]


def small_potential(source, web):
    low, high = (-1, 1) if web.modulus() == 0 else (0, web.modulus() - 1)
    return [source.randint(low, high) for node in range(web.size())]


def great_webs(count, seed):
    """Webs of up to 30 nodes and 60 edges."""
    source = random.Random(seed)
    for at in range(count):
        size = source.randint(1, 30)
        edges = [(source.randrange(size), source.randrange(size)) for number in range(source.randint(0, 60))]
        yield Web(size, edges, modulus=source.choice([0, 2, 7, 60]))


class Examples(unittest.TestCase):
    def test_two_webs(self):
        webs = [Web(2, [(0, 1)], modulus=5), Web(2, [(1, 0)], modulus=5)]
        self.assertEqual(("potential", [0, 4]), transform_all(webs, [[0], [0]], [[1], [4]]))
        self.assertEqual("cycle", transform_all(webs, [[0], [0]], [[1], [2]])[0])


class Interface(unittest.TestCase):
    def test_arguments(self):
        self.assertEqual("(webs, befores, afters, *, fixed=())", str(inspect.signature(transform_all)))
        self.assertEqual("(webs, befores, afters, thing, *, fixed=())", str(inspect.signature(is_transform_all)))
        for function in (transform_all, is_transform_all):
            self.assertEqual("turnedties.joint", function.__module__)


class TransformAll(unittest.TestCase):
    def test_small_webs(self):
        words = {"potential": 0, "cycle": 0, "fixed": 0}
        for task in tasks(small_webs(1200, 221), 221, small_gains, small_potential):
            source, web, before, after, fixed, webs, befores, afters = task
            result = transform_all(webs, befores, afters, fixed=fixed)
            words[result[0]] += 1
            potentials = leading_all(webs, befores, afters, fixed)
            if result[0] == "potential":
                self.assertIn(result[1], potentials)
                self.check_anchors(webs, result[1], fixed)
            else:
                self.assertEqual([], potentials)
                closed = check_joint_walk(self, webs, befores, afters, fixed, result)
                self.assertIs(leading_all(webs, befores, afters) == [], closed)
            self.assertIs(True, is_transform_all(webs, befores, afters, result, fixed=fixed))
        self.assertGreater(min(words.values()), 30)

    def check_anchors(self, webs, potential, fixed):
        for node in fixed:
            self.assertEqual(0, potential[node])
        for group in joint_groups(webs):
            if not set(group) & set(fixed):
                self.assertEqual(0, potential[group[0]])

    def test_as_one_web_that_has_all_edges(self):
        words = {"potential": 0, "cycle": 0, "fixed": 0}
        for task in tasks(great_webs(400, 222), 222, random_gains, random_potential):
            source, web, before, after, fixed, webs, befores, afters = task
            result = transform_all(webs, befores, afters, fixed=fixed)
            expected = transform(web, before, after, fixed=fixed)
            self.assertEqual(expected[0], result[0])
            words[result[0]] += 1
            if result[0] == "potential":
                self.assertEqual(expected, result)
                self.check_anchors(webs, result[1], fixed)
            else:
                check_joint_walk(self, webs, befores, afters, fixed, result)
            for other in (befores, tuple(befores)):
                self.assertEqual(result, transform_all(tuple(webs), other, tuple(afters), fixed=list(fixed)))
        self.assertGreater(min(words.values()), 30)

    def test_one_web_is_as_transform(self):
        web = Web(4, [(0, 1), (1, 2), (2, 0), (3, 3)], modulus=7)
        for after in ([1, 2, 3, 4], [2, 2, 2, 4], [2, 2, 2, 5], [0, 0, 0, 0]):
            for fixed in ((), [1], [0, 1, 2]):
                word, found = transform(web, [1, 2, 3, 4], after, fixed=fixed)
                result = transform_all([web], [[1, 2, 3, 4]], [after], fixed=fixed)
                self.assertEqual(word, result[0])
                if word == "potential":
                    self.assertEqual(found, result[1])
                else:
                    check_joint_walk(self, [web], [[1, 2, 3, 4]], [after], fixed, result)

    def test_balanced_alone_and_not_together(self):
        webs = [Web(3, [(0, 1)]), Web(3, [(1, 2)]), Web(3, [(2, 0)])]
        befores, afters = [[0], [0], [0]], [[5], [6], [7]]
        for web, before, after in zip(webs, befores, afters):
            self.assertEqual("potential", transform(web, before, after)[0])
        for chosen in ([0, 1], [1, 2], [0, 2]):
            rows = [[row[number] for number in chosen] for row in (webs, befores, afters)]
            self.assertEqual("potential", transform_all(*rows)[0])
        result = transform_all(webs, befores, afters)
        self.assertTrue(check_joint_walk(self, webs, befores, afters, (), result))
        self.assertEqual({0, 1, 2}, {number for number, edge, way in result[1]})
        self.assertEqual("potential", transform_all(webs, befores, [[5], [6], [-11]])[0])

    def test_a_fixed_walk_only_if_no_closed_one(self):
        webs = [Web(4, [(0, 1)], modulus=6), Web(4, [(1, 2)], modulus=6), Web(4, [(3, 3)], modulus=6)]
        result = transform_all(webs, [[0], [0], [0]], [[1], [2], [0]], fixed=(2, 0))
        self.assertFalse(check_joint_walk(self, webs, [[0], [0], [0]], [[1], [2], [0]], (2, 0), result))
        result = transform_all(webs, [[0], [0], [0]], [[1], [2], [1]], fixed=(2, 0))
        self.assertEqual(("cycle", [(2, 0, 1)]), result)
        self.assertEqual(
            ("potential", [0, 5, 3, 0]), transform_all(webs, [[0], [0], [0]], [[1], [2], [0]], fixed=[3, 0]),
        )
        self.assertEqual(
            ("potential", [0, 5, 0, 0]), transform_all(webs, [[0], [0], [0]], [[1], [5], [0]], fixed=[2, 0]),
        )

    def test_no_edges(self):
        for count in range(1, 7):
            webs = [Web(3, modulus=4)] * count
            self.assertEqual(("potential", [0, 0, 0]), transform_all(webs, [[]] * count, [[]] * count))
            self.assertEqual(("potential", [0, 0, 0]), transform_all(webs, [[]] * count, [[]] * count, fixed=[2, 0]))

    def test_six_great_webs(self):
        source = random.Random(223)
        for modulus in (0, 2, 60):
            webs = [
                Web(30, [(source.randrange(30), source.randrange(30)) for number in range(60)], modulus=modulus)
                for at in range(6)
            ]
            befores = [random_gains(source, web) for web in webs]
            potential = random_potential(source, webs[0])
            potential[0] = potential[17] = 0
            afters = [moved(web, before, potential) for web, before in zip(webs, befores)]
            started = time.process_time()
            self.assertEqual(("potential", potential), transform_all(webs, befores, afters, fixed=[17, 0]))
            afters[5][59] = reduced(webs[5], afters[5][59] + 1)
            result = transform_all(webs, befores, afters)
            self.assertTrue(check_joint_walk(self, webs, befores, afters, (), result))
            self.assertIs(True, is_transform_all(webs, befores, afters, result))
            self.assertIs(False, is_transform_all(webs, befores, afters, ("potential", potential)))
            self.assertLess(time.process_time() - started, 2)

    def test_arguments_stay_and_results_are_new(self):
        webs, befores, afters, fixed = two_webs(), [[0], [0, 0]], [[1], [2, 0]], [2]
        first = transform_all(webs, befores, afters, fixed=fixed)
        kept = first[0], list(first[1])
        first[1].append(7)
        self.assertEqual(kept, transform_all(webs, befores, afters, fixed=fixed))
        self.assertEqual([two_webs(), [[0], [0, 0]], [[1], [2, 0]], [2]], [webs, befores, afters, fixed])


class IsTransformAll(unittest.TestCase):
    def test_all_potentials_of_small_webs(self):
        for task in tasks(small_webs(150, 224), 224, small_gains, small_potential):
            source, web, before, after, fixed, webs, befores, afters = task
            good = leading_all(webs, befores, afters, fixed)
            for potential in every_potential(web)[::3] + good[:20]:
                result = is_transform_all(webs, befores, afters, ("potential", potential), fixed=fixed)
                self.assertIs(potential in good, result)

    def test_walks_whoever_wrote_them(self):
        seen = {True: 0, False: 0}
        for task in tasks(small_webs(500, 225), 225, small_gains, small_potential):
            source, web, before, after, fixed, webs, befores, afters = task
            edges = [(number, edge) for number, web in enumerate(webs) for edge in range(len(web))]
            for at in range(6 if edges else 0):
                walk = [(*source.choice(edges), source.choice([1, -1])) for step in range(source.randint(1, 3))]
                for word in ("cycle", "fixed"):
                    expected = self.is_good(word, webs, befores, afters, fixed, walk)
                    seen[expected] += 1
                    self.assertIs(expected, is_transform_all(webs, befores, afters, (word, walk), fixed=fixed))
                    if expected:
                        self.assertEqual([], leading_all(webs, befores, afters, fixed))
        self.assertGreater(min(seen.values()), 50)

    def is_good(self, word, webs, befores, afters, fixed, walk):
        ends = [joint_edge(webs, *step) for step in walk]
        if any(one[1] != two[0] for one, two in zip(ends, ends[1:])):
            return False
        if joint_sum(webs, befores, walk) == joint_sum(webs, afters, walk):
            return False
        start, finish = ends[0][0], ends[-1][1]
        return start == finish if word == "cycle" else start != finish and {start, finish} <= set(fixed)

    def check(self, expected, thing, **keywords):
        self.assertIs(expected, is_transform_all(two_webs(), [[0], [0, 0]], [[1], [2, 0]], thing, **keywords))

    def test_potentials_need_not_be_0_at_first_nodes(self):
        for value in range(5):
            self.check(True, ("potential", [value, (value + 4) % 5, (value + 1) % 5]))
        self.check(True, ("potential", [4, 3, 0]), fixed=[2])
        self.check(False, ("potential", [0, 4, 1]), fixed=[2])

    def test_a_fixed_walk_is_accepted_beside_a_closed_one(self):
        webs, befores, afters = two_webs(), [[0], [0, 0]], [[1], [2, 1]]
        for thing in (("cycle", [(1, 1, 1)]), ("cycle", [(1, 1, -1)]), ("fixed", [(0, 0, 1), (1, 0, -1)])):
            self.assertIs(True, is_transform_all(webs, befores, afters, thing, fixed=[0, 2]))
            for word in ("", "walk", "Fixed", "cycles", "joint", None, b"fixed", Hostile(), Agreeing()):
                self.assertIs(False, is_transform_all(webs, befores, afters, (word, thing[1]), fixed=[0, 2]))
        self.assertIs(False, is_transform_all(webs, befores, afters, ("fixed", [(0, 0, 1), (1, 0, -1)]), fixed=[0]))
        self.assertIs(False, is_transform_all(webs, befores, afters, ("cycle", [(0, 0, 1), (0, 0, -1)]), fixed=[0, 2]))

    def test_long_walks(self):
        webs, befores, afters = two_webs(), [[0], [0, 0]], [[1], [2, 1]]
        for count in (1, 4, 1001, 1004):
            self.assertIs(True, is_transform_all(webs, befores, afters, ("cycle", [(1, 1, 1)] * count)))
        for count in (5, 1000):
            self.assertIs(False, is_transform_all(webs, befores, afters, ("cycle", [(1, 1, 1)] * count)))

    def test_any_value(self):
        good = [0, 4, 1]
        steps = [(1, 1, 1), (0, 0, 1)]
        things = no_integers() + [
            0, 5, ["potential", good], ("potential",), ("potential", good, 0), (good, "potential"), ("Potential", good),
            ("potential", tuple(good)), ("potential", [good]), ("cycle", good), ("fixed", good), ("cycle", []),
            ("", good), (b"potential", good), (None, good), (Hostile(), good), (Agreeing(), good), looped_list(),
            ("potential", None), ("cycle", None), ("fixed", Hostile()), ("cycle", looped_list()), ("cycle", "1"),
            ("cycle", tuple(steps)), ("potential", looped_list()), ("cycle", [steps]), ("cycle", ((1, 1, 1),)),
            (True, good),
        ]
        things += [("potential", wrong) for wrong in no_rows(good, no_residues(5))]
        for thing in things:
            self.check(False, thing)
            self.check(False, thing, fixed=[0, 2])
        self.check(True, ("potential", good))

    def test_any_value_as_a_step(self):
        webs, befores, afters = two_webs(), [[0], [0, 0]], [[1], [2, 1]]
        wrong = no_integers() + [0, [1, 1, 1], (1, 1), (1, 1, 1, 1), (1, (1, 1)), ((1, 1), 1)]
        wrong += [(number, 1, 1) for number in no_integers() + numbers_outside(0, 1)]
        wrong += [(1, edge, 1) for edge in no_integers() + numbers_outside(0, 1)]
        wrong += [(0, edge, 1) for edge in [1, 2, -1]]
        wrong += [(1, 1, way) for way in no_integers() + [0, 2, -2, 10 ** 60]]
        for step in wrong:
            for walk in ([step], [(1, 1, 1), step], [step, (1, 1, 1)]):
                for word in ("cycle", "fixed"):
                    self.assertIs(False, is_transform_all(webs, befores, afters, (word, walk), fixed=[0, 2]))
        self.assertIs(True, is_transform_all(webs, befores, afters, ("cycle", [(1, 1, 1)])))


class WrongArguments(unittest.TestCase):
    def good(self, modulus=5, **more):
        return {
            "webs": two_webs(modulus), "befores": [[0], [0, 0]], "afters": [[1], [2, 0]], "fixed": (), **more,
        }

    def functions(self):
        return (transform_all, {}), (is_transform_all, {"thing": Hostile()})

    def test_which_exception_comes_first(self):
        faults = [
            ("webs", InvalidWebs, []), ("befores", InvalidGains, None), ("afters", InvalidGains, [[0]]),
            ("fixed", InvalidFixed, [0, 0]),
        ]
        for function, more in self.functions():
            for modulus in (0, 5):
                check_order(self, function, self.good(modulus, **more), faults)

    def test_webs(self):
        web = Web(3, [(0, 1)], modulus=5)
        wrong = no_integers() + [0, web, {0: web}, {1: web}, "web", [], (), [web] * 7, (web,) * 7, [None], [web, None]]
        wrong += [(web, Hostile()), [Agreeing(), web], [web, [web]], [Web], [web, Web(2, [(0, 1)], modulus=5)]]
        wrong += [[web, Web(4, modulus=5)], (web, Web(3, [(0, 1)])), [web, web, Web(3, modulus=10)], looped_list()]
        wrong += [[Web(3), Web(3), Web(3, modulus=5)], [Web(30)] * 5 + [Web(29)], (web,) * 6 + (None,)]
        for function, more in self.functions():
            check_each_value(self, function, self.good(**more), "webs", InvalidWebs, wrong)

    def test_gains_of_the_webs(self):
        rows = [None, True, 0, 2, "", "00", {}, {0: [0], 1: [0, 0]}, set(), object(), Hostile(), Agreeing(), len]
        rows += [[], (), [[0]], ([0],), [[0], [0, 0], [0]], ([0], [0, 0], []), [None], [None] * 3, looped_list()]
        for function, more in self.functions():
            for name in ("befores", "afters"):
                check_each_value(self, function, self.good(**more), name, InvalidGains, rows)

    def test_the_first_entry_that_is_not_gains_of_its_web(self):
        for function, more in self.functions():
            for name in ("befores", "afters"):
                for kind in (list, tuple):
                    for entry in no_rows([0], no_residues(5)):
                        arguments = {**self.good(**more), name: kind([entry, None])}
                        check_raises(self, InvalidGains, entry, lambda: function(**arguments))
                    for entry in no_rows([0, 1], no_residues(5)):
                        arguments = {**self.good(**more), name: kind([[0], entry])}
                        check_raises(self, InvalidGains, entry, lambda: function(**arguments))

    def test_befores_come_ahead_of_afters(self):
        for function, more in self.functions():
            one, two = [5], [0, -1]
            arguments = {**self.good(**more), "befores": [[0], two], "afters": [one, [0, 0]]}
            check_raises(self, InvalidGains, two, lambda: function(**arguments))
            arguments = {**self.good(**more), "befores": [[0], two], "afters": None}
            check_raises(self, InvalidGains, two, lambda: function(**arguments))

    def test_fixed(self):
        for function, more in self.functions():
            check_each_value(self, function, self.good(**more), "fixed", InvalidFixed, no_fixed(3))


class Translated(unittest.TestCase):
    def test_renumbered_nodes_and_edges(self):
        for task in tasks(great_webs(100, 226), 226, random_gains, random_potential):
            source, web, before, after, fixed, webs, befores, afters = task
            nodes = source.sample(range(web.size()), web.size())
            renamed = [Renamed(source, part, nodes) for part in webs]
            two = (
                [part.other for part in renamed], [part.gains(row) for part, row in zip(renamed, befores)],
                [part.gains(row) for part, row in zip(renamed, afters)],
            )
            some = [nodes[node] for node in fixed]
            word, found = transform_all(webs, befores, afters, fixed=fixed)
            self.assertEqual(word, transform_all(*two, fixed=some)[0])
            if word == "potential":
                found = renamed[0].by_node(found)
            else:
                found = [(number, *renamed[number].walk([(edge, way)])[0]) for number, edge, way in found]
            self.assertIs(True, is_transform_all(*two, (word, found), fixed=some))

    def test_negated_gains(self):
        for task in tasks(great_webs(100, 227), 227, random_gains, random_potential):
            source, web, before, after, fixed, webs, befores, afters = task
            rows = [[[reduced(web, -gain) for gain in row] for row in many] for many in (befores, afters)]
            word, found = transform_all(webs, befores, afters, fixed=fixed)
            if word == "potential":
                found = [reduced(web, -value) for value in found]
            self.assertEqual((word, found), transform_all(webs, *rows, fixed=fixed))

    def test_webs_in_another_order(self):
        for task in tasks(great_webs(100, 228), 228, random_gains, random_potential):
            source, web, before, after, fixed, webs, befores, afters = task
            word, found = transform_all(webs, befores, afters, fixed=fixed)
            other = transform_all(webs[::-1], befores[::-1], afters[::-1], fixed=fixed)
            self.assertEqual(word, other[0])
            if word == "potential":
                self.assertEqual(found, other[1])


if __name__ == "__main__":
    unittest.main()
