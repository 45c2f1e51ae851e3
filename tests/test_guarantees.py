"""Point [4] (i): results are translated with the web; and point [3]: equal arguments give equal results."""

import random
import unittest

from tests.oracles import moved, reduced
from tests.renamed import Renamed
from tests.samples import random_fixed, random_gains, random_potential, random_webs, shuffled
from turnedties.costs import cheapest, fewest, is_cheapest, is_lower_bound, lower_bound
from turnedties.equivalence import class_count, class_size, is_transform, potential_count, transform
from turnedties.inference import diagnose, fewest_hands, idle_hands
from turnedties.switching import switched
from turnedties.targets import is_reach, reach, reach_cheapest, unmet
from turnedties.trees import fewest_left, is_tree
from turnedties.webs import Web
from turnedties.zeros import blockers


def tasks(count, seed):
    """Webs with a translation, gains before and after, weights and fixed nodes."""
    source = random.Random(seed)
    for web in random_webs(count, seed):
        before = random_gains(source, web)
        potential = random_potential(source, web)
        fixed = random_fixed(source, web) if source.random() < 0.6 else []
        for node in fixed:
            if source.random() < 0.9:
                potential[node] = 0
        after = moved(web, before, potential)
        if after and source.random() < 0.2:
            after[-1] = random_gains(source, web)[-1]
        weights = [source.randint(1, 5) for node in range(web.size())]
        yield source, Renamed(source, web), before, after, weights, fixed


class Translated(unittest.TestCase):
    def test_transform_and_costs(self):
        for source, renamed, before, after, weights, fixed in tasks(200, 41):
            one = (renamed.web, before, after)
            two = (renamed.other, renamed.gains(before), renamed.gains(after))
            some, rates = renamed.some(fixed), renamed.by_node(weights)
            result = transform(*one, fixed=fixed)
            self.assertEqual(result[0], transform(*two, fixed=some)[0])
            self.assertTrue(is_transform(*two, renamed.result(result), fixed=some))
            result = cheapest(*one, weights=weights, fixed=fixed)
            self.assertEqual(result[2:], cheapest(*two, weights=rates, fixed=some)[2:])
            accepted = is_cheapest(*two, renamed.result(result), weights=rates, fixed=some)
            self.assertIs(result[0] == "potential", accepted)
            self.assertEqual(fewest(*one, fixed=fixed)[2:], fewest(*two, fixed=some)[2:])
            if renamed.web.modulus() == 0 and result[0] == "potential":
                slopes, total = lower_bound(*one, weights=weights, fixed=fixed)
                thing = (renamed.by_node(slopes), total)
                self.assertTrue(is_lower_bound(*two, thing, weights=rates, fixed=some))

    def test_counts(self):
        for source, renamed, before, after, weights, fixed in tasks(100, 42):
            for count in (class_count, class_size, potential_count):
                self.assertEqual(count(renamed.web), count(renamed.other))

    def test_targets(self):
        for source, renamed, before, after, weights, fixed in tasks(200, 43):
            target = {number: after[number] for number in range(len(after)) if source.random() < 0.8}
            one = (renamed.web, before, shuffled(source, target))
            two = (renamed.other, renamed.gains(before), renamed.target(target))
            some, rates = renamed.some(fixed), renamed.by_node(weights)
            result = reach(*one, fixed=fixed)
            self.assertEqual(result[0], reach(*two, fixed=some)[0])
            self.assertTrue(is_reach(*two, renamed.result(result), fixed=some))
            result = reach_cheapest(*one, weights=weights, fixed=fixed)
            self.assertEqual(result[2:], reach_cheapest(*two, weights=rates, fixed=some)[2:])
            self.assertEqual(unmet(*one), sorted(renamed.order[number] for number in unmet(*two)))

    def test_trees(self):
        for source, renamed, before, after, weights, fixed in tasks(200, 44):
            if renamed.web.size() <= 12:
                for number in source.sample(range(len(after)), min(len(after), 3)):
                    after[number] = random_gains(source, renamed.web)[number]
                target = dict(enumerate(after))
                edges, tree = fewest_left(renamed.web, before, target)
                two = (renamed.other, renamed.gains(before), renamed.target(target))
                others = fewest_left(*two)[0]
                self.assertEqual(None if edges is None else len(edges), None if others is None else len(others))
                if tree is not None:
                    count = 2 if edges is None else len(edges) - 1
                    self.assertTrue(is_tree(*two, count, renamed.tree(count, tree)))

    def test_zeros_and_inference(self):
        for source, renamed, before, after, weights, fixed in tasks(200, 45):
            found = blockers(renamed.web, before, renamed.web.forest())
            edges = [renamed.order.index(number) for number in renamed.web.forest()]
            others = blockers(renamed.other, renamed.gains(before), edges)
            self.assertEqual(sorted(found), sorted(renamed.order[number] for number in others))
            one = (renamed.web, before, after)
            two = (renamed.other, renamed.gains(before), renamed.gains(after))
            hands = [renamed.web.components()[0][::2], [0], list(range(renamed.web.size()))[1:]]
            for function in (idle_hands, fewest_hands):
                self.assertEqual(function(*one, hands), function(*two, [renamed.some(hand) for hand in hands]))
            result, other = diagnose(*one, fixed=fixed), diagnose(*two, fixed=renamed.some(fixed))
            self.assertEqual(result[0], other[0])
            if result[0] == "switched":
                self.assertEqual(other[1], sorted(renamed.some(result[1])))
                self.assertEqual(other[2], sorted(renamed.some(result[2])))
                parts = sorted(sorted(renamed.some(part)) for group in result[3] for part in group)
                self.assertEqual(parts, sorted(part for group in other[3] for part in group))

    def test_negated_gains(self):
        for source, renamed, before, after, weights, fixed in tasks(200, 46):
            web = renamed.web
            one = (web, before, after)
            two = (web, [reduced(web, -gain) for gain in before], [reduced(web, -gain) for gain in after])
            result = transform(*one, fixed=fixed)
            if result[0] == "potential":
                result = "potential", [reduced(web, -value) for value in result[1]]
                self.assertEqual(two[2], switched(*two[:2], result[1]))
            self.assertEqual(result, transform(*two, fixed=fixed))
            one_cost, two_cost = [cheapest(*task, weights=weights, fixed=fixed)[2:] for task in (one, two)]
            self.assertEqual(one_cost, two_cost)
            self.assertEqual(diagnose(*one, fixed=fixed), diagnose(*two, fixed=fixed))


class EqualArguments(unittest.TestCase):
    def test_lists_and_tuples_and_weights(self):
        for source, renamed, before, after, weights, fixed in tasks(100, 47):
            web, twin = renamed.web, Web(renamed.web.size(), tuple(renamed.web.edges()), modulus=renamed.web.modulus())
            target = dict(enumerate(after))
            for function in (transform, cheapest, fewest, diagnose):
                expected = function(web, before, after, fixed=list(fixed))
                self.assertEqual(expected, function(twin, list(before), list(after), fixed=tuple(fixed)))
            for ones in ([1] * web.size(), (1,) * web.size()):
                self.assertEqual(
                    cheapest(web, before, after, fixed=fixed), cheapest(twin, before, after, weights=ones, fixed=fixed),
                )
                self.assertEqual(
                    reach_cheapest(web, before, target, fixed=fixed),
                    reach_cheapest(twin, before, shuffled(source, target), weights=ones, fixed=fixed),
                )
            self.assertEqual(blockers(web, before, web.forest()), blockers(twin, before, tuple(web.forest())))


if __name__ == "__main__":
    unittest.main()
