"""Who switched: points [20] and [21], and point [4] (e)."""

import inspect
import itertools
import random
import unittest

from tests.oracles import (
    check_excluding, excluded_by_cycles, leading, moved, small_after, small_gains, small_webs,
)
from tests.samples import (
    Agreeing, Hostile, check_each_value, check_order, looped_list, no_fixed, no_integers, no_residues, no_rows,
    numbers_outside, random_fixed, random_gains, random_potential, random_webs,
)
from turnedties.equivalence import transform
from turnedties.errors import InvalidFixed, InvalidGains, InvalidHands
from turnedties.inference import diagnose, fewest_hands, idle_hands
from turnedties.webs import Web


def chain(size=3, modulus=5):
    return Web(size, [(0, 1), (1, 2)], modulus=modulus)


def random_hands(source, web, most):
    """Hands of any nodes, some of which are in several of them or in none."""
    nodes = range(web.size())
    hands = [source.sample(nodes, source.randint(0, web.size())) for number in range(source.randint(1, most))]
    return source.choice([list, tuple])(hands)


def explain(potentials, hands, chosen):
    """Whether one of the potentials is 0 at every node that belongs to none of the chosen hands."""
    held = {node for number in chosen for node in hands[number]}
    return any(all(value == 0 or node in held for node, value in enumerate(potential)) for potential in potentials)


def plain_idle(potentials, hands):
    """What idle_hands returns, by going through the potentials."""
    numbers = range(len(hands))
    if not explain(potentials, hands, numbers):
        return None
    return [explain(potentials, hands, [number for number in numbers if number != hand]) for hand in numbers]


def plain_fewest(potentials, hands):
    """What fewest_hands returns, by going through the potentials; combinations come in the order of lists."""
    for count in range(len(hands) + 1):
        for chosen in itertools.combinations(range(len(hands)), count):
            if explain(potentials, hands, chosen):
                return list(chosen)
    return None


class Examples(unittest.TestCase):
    def test_diagnose(self):
        web = chain(4)
        self.assertEqual(("switched", [], [], [[[0, 2], [1]], [[3]]]), diagnose(web, [0, 0], [1, 4]))
        self.assertEqual(
            ("switched", [1], [0, 2], [[[0, 2], [1]], [[3]]]), diagnose(web, [0, 0], [1, 4], fixed=[2]),
        )

    def test_hands(self):
        self.assertEqual([True, True, True], idle_hands(chain(), [0, 0], [1, 4], [[0, 2], [1], [1, 2]]))
        self.assertEqual([1], fewest_hands(chain(), [0, 0], [1, 4], [[0], [1, 2], [1]]))
        self.assertIsNone(idle_hands(chain(), [0, 0], [1, 4], [[0]]))


class Interface(unittest.TestCase):
    def test_arguments(self):
        self.assertEqual("(web, before, after, *, fixed=())", str(inspect.signature(diagnose)))
        self.assertEqual("(web, before, after, hands)", str(inspect.signature(idle_hands)))
        self.assertEqual("(web, before, after, hands)", str(inspect.signature(fewest_hands)))

    def test_functions_are_defined_in_the_file(self):
        for function in (diagnose, idle_hands, fewest_hands):
            self.assertEqual("turnedties.inference", function.__module__)


class Diagnose(unittest.TestCase):
    def test_small_webs(self):
        source = random.Random(201)
        words = {"switched": 0, "cycle": 0, "fixed": 0}
        for web in small_webs(500, 201):
            before = small_gains(source, web)
            after = small_after(source, web, before)
            fixed = random_fixed(source, web)
            result = diagnose(web, before, after, fixed=fixed)
            words[result[0]] += 1
            potentials = leading(web, before, after, fixed)
            if potentials:
                self.assertEqual(self.plain(web, potentials), result)
            else:
                closed = check_excluding(self, web, before, after, fixed, result)
                self.assertIs(excluded_by_cycles(web, before, after), closed)
        self.assertGreater(min(words.values()), 20)

    def plain(self, web, potentials):
        nodes = range(web.size())
        always = [node for node in nodes if all(potential[node] != 0 for potential in potentials)]
        never = [node for node in nodes if all(potential[node] == 0 for potential in potentials)]
        alike = []
        for group in web.components():
            parts = []
            for node in group:
                for part in parts:
                    if all(potential[part[0]] == potential[node] for potential in potentials):
                        part.append(node)
                        break
                else:
                    parts.append([node])
            alike.append(parts)
        return "switched", always, never, alike

    def test_a_node_is_in_a_list_exactly_if_its_component_has_a_fixed_node(self):
        source = random.Random(202)
        for web in random_webs(150, 202):
            before, potential = random_gains(source, web), random_potential(source, web)
            fixed = random_fixed(source, web)
            for node in fixed:
                potential[node] = 0
            word, always, never, alike = diagnose(web, before, moved(web, before, potential), fixed=fixed)
            settled = [node for group in web.components() if set(group) & set(fixed) for node in group]
            self.assertEqual(sorted(settled), sorted(always + never))
            self.assertEqual(sorted(always), always)
            self.assertEqual(sorted(never), never)
            for node in settled:
                self.assertIs(potential[node] != 0, node in always)
            self.assertEqual(web.components(), [sorted(sum(parts, [])) for parts in alike])

    def test_two_components_whose_nodes_lie_between_one_another(self):
        web = Web(5, [(0, 2), (2, 4), (1, 3)], modulus=3)
        expected = ("switched", [1, 2], [0, 3, 4], [[[0, 4], [2]], [[1], [3]]])
        self.assertEqual(expected, diagnose(web, [0, 0, 0], [2, 1, 2], fixed=[4, 3]))
        self.assertEqual(expected, diagnose(web, [0, 0, 0], [2, 1, 2], fixed=(3, 0)))

    def test_where_there_is_no_potential(self):
        web = Web(3, [(0, 1), (1, 2), (2, 0)], modulus=5)
        for after, fixed in (([0, 0, 0], ()), ([0, 0, 0], [0, 1]), ([3, 3, 0], [0, 1]), ([3, 3, 0], (2, 1, 0))):
            self.assertEqual(transform(web, [1, 2, 3], after, fixed=fixed), diagnose(web, [1, 2, 3], after, fixed=fixed))

    def test_arguments_stay_and_results_are_new(self):
        before, after, fixed = [0, 0], [1, 4], [2]
        first = diagnose(chain(4), before, after, fixed=fixed)
        for rows in first[1:]:
            rows.append(7)
        first[3][0].append(7)
        first[3][0][0].append(7)
        self.assertEqual(
            ("switched", [1], [0, 2], [[[0, 2], [1]], [[3]]]), diagnose(chain(4), before, after, fixed=tuple(fixed)),
        )
        self.assertEqual([[0, 0], [1, 4], [2]], [before, after, fixed])

    def test_wrong_arguments(self):
        good = {"web": chain(), "before": [0, 0], "after": [1, 4], "fixed": ()}
        check_order(
            self, diagnose, good,
            [("before", InvalidGains, [0]), ("after", InvalidGains, [1, 5]), ("fixed", InvalidFixed, [0, 0])],
        )
        check_each_value(self, diagnose, good, "before", InvalidGains, no_rows([0, 1], no_residues(5)))
        check_each_value(self, diagnose, good, "after", InvalidGains, no_rows([0, 1], no_residues(5)))
        check_each_value(self, diagnose, good, "fixed", InvalidFixed, no_fixed(3))


class Hands(unittest.TestCase):
    def test_small_webs(self):
        source = random.Random(211)
        seen = {None: 0, 0: 0, 1: 0, 2: 0}
        for web in small_webs(900, 211):
            before = small_gains(source, web)
            after = small_after(source, web, before)
            hands = random_hands(source, web, 5)
            kept = [list(before), list(after), [list(hand) for hand in hands]]
            potentials = leading(web, before, after)
            fewest = fewest_hands(web, before, after, hands)
            self.assertEqual(plain_fewest(potentials, hands), fewest)
            self.assertEqual(plain_idle(potentials, hands), idle_hands(web, before, after, hands))
            self.assertEqual(kept, [before, after, [list(hand) for hand in hands]])
            seen[None if fewest is None else len(fewest)] += 1
        self.assertGreater(min(seen.values()), 2)

    def test_a_hand_for_each_node(self):
        source = random.Random(212)
        for web in small_webs(100, 212):
            before = small_gains(source, web)
            after = small_after(source, web, before)
            hands = [[node] for node in source.sample(range(web.size()), web.size())]
            potentials = leading(web, before, after)
            self.assertEqual(plain_fewest(potentials, hands), fewest_hands(web, before, after, hands))
            self.assertEqual(plain_idle(potentials, hands), idle_hands(web, before, after, hands))

    def test_eight_hands_in_a_great_web(self):
        source = random.Random(213)
        edges = [(node, (node + 1) % 30) for node in range(30)] + [(node, (node + 7) % 30) for node in range(30)]
        web = Web(30, edges)
        before = random_gains(source, web)
        hands = [list(range(at, 30, 7)) for at in range(7)] + [[29]]
        potential = [10 ** 50 + node if node % 7 in (2, 3, 5) else 0 for node in range(30)]
        after = moved(web, before, potential)
        self.assertEqual([2, 3, 5], fewest_hands(web, before, after, hands))
        self.assertEqual([at not in (2, 3, 5) for at in range(8)], idle_hands(web, before, after, hands))
        after[0] += 1
        self.assertIsNone(fewest_hands(web, before, after, hands))
        self.assertIsNone(idle_hands(web, before, after, hands))

    def test_the_first_in_the_order_of_lists(self):
        web = Web(4, [(0, 1), (1, 2), (2, 3)], modulus=7)
        after = moved(web, [0, 0, 0], [0, 1, 2, 0])
        self.assertEqual([0, 3], fewest_hands(web, [0, 0, 0], after, [[1], [1], [0], [2], [2]]))
        self.assertEqual([1, 2], fewest_hands(web, [0, 0, 0], after, [[0], [2], [1], [2], [1]]))
        self.assertEqual([3], fewest_hands(web, [0, 0, 0], after, [[1], [2], [], [2, 3, 1], [1, 2]]))
        self.assertEqual([0, 7], fewest_hands(web, [0, 0, 0], after, [[1]] * 7 + [[2]]))

    def test_nothing_changed(self):
        web = chain()
        self.assertEqual([], fewest_hands(web, [1, 2], [1, 2], [[]]))
        self.assertEqual([], fewest_hands(web, [1, 2], [1, 2], [[0, 1, 2]] * 8))
        self.assertEqual([True], idle_hands(web, [1, 2], [1, 2], [[]]))
        self.assertEqual([True, True], idle_hands(web, [1, 2], [1, 2], ([0], [1])))
        self.assertEqual([], fewest_hands(Web(1), [], [], ([0],)))

    def test_empty_hands_and_nodes_in_several_or_none(self):
        web, after = chain(), moved(chain(), [0, 0], [0, 1, 0])
        self.assertEqual([True, False], idle_hands(web, [0, 0], after, [[], [1]]))
        self.assertEqual([1], fewest_hands(web, [0, 0], after, [[], [1]]))
        self.assertEqual([True, True], idle_hands(web, [0, 0], after, [[1], [1, 0]]))
        self.assertEqual([0, 1], fewest_hands(web, [0, 0], after, [[0], [2], [0]]))
        self.assertIsNone(fewest_hands(web, [0, 0], after, [[0], [], [0]]))
        self.assertIsNone(idle_hands(web, [0, 0], after, [[0], [], [0]]))
        self.assertIsNone(fewest_hands(web, [0, 0], after, ([],)))

    def test_results_are_new(self):
        for function in (idle_hands, fewest_hands):
            first = function(chain(), [0, 0], [1, 4], [[0], [1, 2], [1]])
            kept = list(first)
            first.append(7)
            self.assertEqual(kept, function(chain(), [0, 0], [1, 4], ([0], [1, 2], [1])))
        for hand in idle_hands(chain(), [0, 0], [1, 4], [[0], [1, 2], [1]]):
            self.assertIs(bool, type(hand))


class WrongHands(unittest.TestCase):
    def good(self):
        return {"web": chain(), "before": [0, 0], "after": [1, 4], "hands": [[0, 2], [1], [1, 2]]}

    def no_hands(self):
        wrong = no_integers() + [0, 1, [], (), [[]] * 9, ([0],) * 9, [[0], 1], [(0,)], [[0], (1,)], {0: [0]}, "0"]
        wrong = [thing for thing in wrong if not (isinstance(thing, list) and thing == [[]])]
        for entry in no_integers() + numbers_outside(0, 2):
            wrong += [[[entry]], [[0], [1, entry]], ([entry, 2], [0])]
            if not isinstance(entry, list):
                wrong += [[entry], [[0], entry], (entry, [1])]
        wrong += [[[0, 0]], [[0], [1, 2, 1]], [[0, 1, 2, 0]], looped_list(), [[0], Hostile()], Agreeing(), [{0}, [1]]]
        return wrong

    def test_any_value(self):
        for function in (idle_hands, fewest_hands):
            check_each_value(self, function, self.good(), "hands", InvalidHands, self.no_hands())
            wrong = no_rows([0, 1], no_residues(5))
            check_each_value(self, function, self.good(), "before", InvalidGains, wrong)
            check_each_value(self, function, self.good(), "after", InvalidGains, wrong)

    def test_which_exception_comes_first(self):
        faults = [("before", InvalidGains, [0]), ("after", InvalidGains, [0, 5]), ("hands", InvalidHands, [[0, 0]])]
        for function in (idle_hands, fewest_hands):
            check_order(self, function, self.good(), faults)

    def test_hands_are_checked_even_if_nothing_explains_the_change(self):
        web = Web(2, [(0, 1), (0, 1)])
        good = {"web": web, "before": [0, 0], "after": [0, 1], "hands": [[0]]}
        for function in (idle_hands, fewest_hands):
            check_each_value(self, function, good, "hands", InvalidHands, [[], [(0,)], [[0]] * 9])
            self.assertIsNone(function(**good))


if __name__ == "__main__":
    unittest.main()
