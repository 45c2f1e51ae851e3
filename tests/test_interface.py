"""What points [3] and [4] promise of everything that the interface lists, over the whole program."""

import copy
import importlib
import inspect
import pathlib
import random
import unittest

from tests.oracles import moved
from tests.samples import (
    Hostile, check_raises, no_integers, random_fixed, random_gains, random_potential, random_walk, random_webs,
)
from turnedties.errors import InvalidFixed, InvalidGains, InvalidPotential
from turnedties.moduli import factors
from turnedties.texts import format_walk, format_web
from turnedties.webs import Web

INTERFACE = {
    "webs": ["is_walk(web, thing)", "is_closed(web, thing)", "ends_of(web, walk)"],
    "residues": [
        "residue(web, number)", "size_of(web, number)", "is_gains(web, thing)", "is_potential(web, thing)",
        "walk_sum(web, gains, walk)",
    ],
    "switching": [
        "switch(web, gains, node, amount)", "switched(web, gains, potential)", "potential_of(web, switches)",
        "added(web, potential, other)", "negated(web, potential)",
    ],
    "equivalence": [
        "transform(web, before, after, *, fixed=())", "is_transform(web, before, after, thing, *, fixed=())",
        "cycle_sums(web, gains)", "normal(web, gains)", "class_size(web)", "class_count(web)", "potential_count(web)",
    ],
    "costs": [
        "cost(web, potential, *, weights=None)", "cheapest(web, before, after, *, weights=None, fixed=())",
        "is_cheapest(web, before, after, thing, *, weights=None, fixed=())", "fewest(web, before, after, *, fixed=())",
        "priced(web, before, after, prices, *, fixed=())",
        "lower_bound(web, before, after, *, weights=None, fixed=())",
        "is_lower_bound(web, before, after, thing, *, weights=None, fixed=())",
    ],
    "targets": [
        "reach(web, gains, target, *, fixed=())", "is_reach(web, gains, target, thing, *, fixed=())",
        "unmet(web, gains, target)", "reach_cheapest(web, gains, target, *, weights=None, fixed=())",
    ],
    "zeros": ["balance(web, gains, *, fixed=())", "blockers(web, gains, edges)"],
    "trees": ["fewest_left(web, gains, target, *, most=2)", "is_tree(web, gains, target, count, thing)"],
    "inference": [
        "diagnose(web, before, after, *, fixed=())", "idle_hands(web, before, after, hands)",
        "fewest_hands(web, before, after, hands)",
    ],
    "joint": [
        "transform_all(webs, befores, afters, *, fixed=())",
        "is_transform_all(webs, befores, afters, thing, *, fixed=())",
    ],
    "moduli": [
        "reduced(web, modulus)", "reduced_gains(web, gains, modulus)", "separating(web, before, after)", "factors(web)",
        "combined(web, potentials)",
    ],
    "camps": ["camps(web, gains)", "is_camps(web, gains, thing)"],
    "texts": ["format_web(web, gains)", "parse_web(text)", "format_walk(walk)", "parse_walk(text)"],
}
CLASSES = {
    ("webs", "Web"): (
        "(size, edges=(), *, modulus=0)",
        "size() modulus() edges() edge(number) components() forest() path(start,finish) cycles() __len__()"
        " __eq__(other) __repr__()",
    ),
    ("boards", "Board"): (
        "(web, gains, *, fixed=())",
        "switch(node,amount) apply(potential) set_gain(number,gain) add_edge(tail,head,gain=0) remove_edge(number)"
        " add_node() fix(node) release(node) reduce(modulus) together(operations) undo() web() gains() fixed() log()"
        " cycle_sums() balance() transform(after) twin() __len__() __eq__(other)",
    ),
    ("crews", "Crew"): (
        "(web, before, after, hands, *, fixed=())",
        "step(hand) run(hands) gains() rest() left() done() log() twin() __len__()",
    ),
    ("desk", "Desk"): ("()", "run(line) __len__()"),
}


def function_of(file, name):
    """A function or class of the program."""
    return getattr(importlib.import_module(f"turnedties.{file}"), name)


def functions():
    """Each function of the interface by its name."""
    return {
        row.split("(")[0]: function_of(file, row.split("(")[0]) for file, rows in INTERFACE.items() for row in rows
    }


def sample_arguments(source, web):
    """Valid values for each name of an argument."""
    before, potential = random_gains(source, web), random_potential(source, web)
    after = moved(web, before, potential)
    if after and source.random() < 0.3:
        after[0] = random_gains(source, web)[0]
    target = {number: after[number] for number in range(len(web)) if source.random() < 0.8}
    walk = random_walk(source, web)
    nodes = list(range(web.size()))
    return {
        "web": web, "gains": before, "before": before, "after": after, "potential": potential, "amount": 7, "count": 1,
        "other": random_potential(source, web), "number": -10 ** 30, "node": 0, "walk": walk or [(0, 1)], "most": 1,
        "switches": [(0, 3), (web.size() - 1, -9)], "target": target, "edges": web.forest()[::2],
        "weights": [source.randint(1, 5) for node in nodes], "fixed": list(random_fixed(source, web)),
        "prices": [[source.randint(0, 9) for value in range(web.modulus())] for node in nodes],
        "hands": [nodes[::2], nodes[1:], []], "webs": [web, web], "befores": [before, before], "afters": [after, after],
        "potentials": [[value] * web.size() for value in range(len(factors(web)))] if web.modulus() else [],
        "modulus": web.modulus() or 7, "thing": [1, ("cycle", walk)],
    }


def sample_text(name, samples):
    """A text that the function of that name can parse."""
    if name == "parse_web":
        return format_web(samples["web"], samples["gains"])
    return format_walk(samples["walk"])


def spoilt(result):
    """Change every list and dict in a result."""
    if isinstance(result, (list, tuple)):
        for part in list(result):
            spoilt(part)
    if isinstance(result, dict):
        for part in list(result.values()):
            spoilt(part)
        result["spoilt"] = 1
    if isinstance(result, list):
        result.append("spoilt")


def outcome(function, places, keywords):
    """What a call returns, or which exception it raises with which value."""
    try:
        return "returned", function(*places, **keywords)
    except Exception as error:
        return "raised", type(error), getattr(error, "value", None)


def other_kinds(name, value):
    """An equal argument: a tuple in place of a list where either will do."""
    if name in ("fixed", "weights", "edges", "hands", "webs", "befores", "afters", "potentials"):
        return tuple(value)
    return copy.deepcopy(value)


class Names(unittest.TestCase):
    def test_functions(self):
        for file, rows in INTERFACE.items():
            for row in rows:
                name, arguments = row.split("(", 1)
                function = function_of(file, name)
                self.assertEqual("(" + arguments, str(inspect.signature(function)), row)
                self.assertEqual(f"turnedties.{file}", function.__module__)

    def test_classes(self):
        for (file, name), (arguments, methods) in CLASSES.items():
            found = function_of(file, name)
            self.assertEqual(f"turnedties.{file}", found.__module__)
            self.assertEqual(arguments, str(inspect.signature(found)))
            for row in methods.split(" "):
                method, rest = row.split("(")
                expected = ", ".join(["self"] + [word for word in rest[:-1].split(",") if word])
                self.assertEqual(f"({expected})", str(inspect.signature(vars(found)[method])), row)

    def test_files(self):
        folder = pathlib.Path(__file__).resolve().parent.parent / "turnedties"
        for file in list(INTERFACE) + ["errors", "boards", "crews", "desk"]:
            self.assertTrue((folder / f"{file}.py").is_file())


class Calls(unittest.TestCase):
    def test_arguments_by_place_and_by_name_and_new_results(self):
        source, found = random.Random(31), functions()
        returned = dict.fromkeys(found, 0)
        for web in random_webs(60, 31):
            samples = sample_arguments(source, web)
            for name, function in found.items():
                parameters = list(inspect.signature(function).parameters.values())
                places = [one.name for one in parameters if one.kind == one.POSITIONAL_OR_KEYWORD]
                others = [one.name for one in parameters if one.kind == one.KEYWORD_ONLY]
                samples["text"] = sample_text(name, samples)
                self.check(function, samples, places, others)
                returned[name] += outcome(function, [samples[one] for one in places], {})[0] == "returned"
        for name, count in returned.items():
            self.assertGreater(count, 0, name)

    def check(self, function, samples, places, others):
        kept = copy.deepcopy(samples)
        keywords = {name: samples[name] for name in others}
        first = outcome(function, [samples[name] for name in places], keywords)
        self.assertEqual(kept, samples)
        expected = copy.deepcopy(first)
        if first[0] == "returned":
            spoilt(first[1])
        self.assertEqual(kept, samples)
        by_name = {name: samples[name] for name in places + others}
        self.assertEqual(expected, outcome(function, [], by_name))
        equal = {name: other_kinds(name, samples[name]) for name in places + others}
        second = outcome(function, [], equal)
        if expected[0] == "returned":
            self.assertEqual(expected, second)
        else:
            self.assertEqual(expected[:2], second[:2])


class AnyValue(unittest.TestCase):
    def test_gains_fixed_nodes_and_potentials_of_every_function(self):
        web = Web(2, [(0, 1), (1, 0)], modulus=2)
        good = {
            "web": web, "gains": [0, 1], "before": [0, 1], "after": [1, 0], "potential": [0, 1], "thing": Hostile(),
            "node": 0, "amount": 1, "walk": [(0, 1)], "target": {0: 1}, "edges": [0], "count": 0, "other": [0, 1],
            "prices": [[0, 1], [2, 3]], "hands": [[0]], "modulus": 2,
        }
        errors = {
            "gains": InvalidGains, "before": InvalidGains, "after": InvalidGains, "potential": InvalidPotential,
            "other": InvalidPotential, "fixed": InvalidFixed,
        }
        classes = [function_of("boards", "Board"), function_of("crews", "Crew")]
        for function in list(functions().values()) + classes:
            parameters = inspect.signature(function).parameters
            if "web" in parameters:
                arguments = {one: good[one] for one in parameters if one in good}
                for one in [one for one in parameters if one in errors]:
                    for wrong in no_integers() + [0, 1, [2, 0], [0, 1, 0], [0, True], ["0", 1], {0: 0, 1: 1}]:
                        if one != "fixed" or not (isinstance(wrong, (list, tuple)) and is_fine(wrong)):
                            check_raises(self, errors[one], wrong, lambda: function(**{**arguments, one: wrong}))


def is_fine(rows):
    """Whether these are fixed nodes of a web of two nodes."""
    return all(type(entry) is int and entry in (0, 1) for entry in rows) and len(set(rows)) == len(rows)


if __name__ == "__main__":
    unittest.main()
