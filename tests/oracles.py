"""Plain and slow answers, by going through everything one by one, to which those of the program are compared."""

import itertools
import random

from turnedties.webs import Web


def reduced(web, number):
    """The residue of a number."""
    return number if web.modulus() == 0 else number % web.modulus()


def plain_sum(web, gains, walk):
    """The sum of a walk, step by step; the gains are a list, or a dict from edges."""
    total = 0
    for number, way in walk:
        total = total + gains[number] if way == 1 else total - gains[number]
    return reduced(web, total)


def plain_size(web, value):
    """How far the value is from 0 in either direction."""
    return abs(value) if web.modulus() == 0 else min(value, web.modulus() - value)


def plain_cost(web, potential, weights=None):
    """The sum of weight times size."""
    return sum((1 if weights is None else weights[node]) * plain_size(web, potential[node]) for node in range(web.size()))


def small_webs(count, seed):
    """Webs that are small enough to go through all their potentials."""
    source = random.Random(seed)
    webs = []
    for at in range(count):
        modulus = source.choice([0, 2, 3, 4, 5, 6])
        size = source.randint(1, 3 if modulus in (0, 6) else 4)
        edges = [(source.randrange(size), source.randrange(size)) for number in range(source.randint(0, size + 1))]
        webs.append(Web(size, edges, modulus=modulus))
    return webs


def small_gains(source, web):
    """Gains so small that, in a small web, no cheapest potential has values beyond those of every_potential."""
    low, high = (-1, 1) if web.modulus() == 0 else (0, web.modulus() - 1)
    return [source.randint(low, high) for edge in web.edges()]


def every_potential(web):
    """All potentials, without a modulus all those with small values."""
    values = range(-5, 6) if web.modulus() == 0 else range(web.modulus())
    return [list(potential) for potential in itertools.product(values, repeat=web.size())]


def moved(web, gains, potential):
    """The gains to which the potential leads."""
    after = []
    for gain, (tail, head) in zip(gains, web.edges()):
        after.append(reduced(web, gain + potential[tail] - potential[head]))
    return after


def leading(web, before, after, fixed=(), numbers=None):
    """All potentials that lead from before to after, at the numbered edges alone if stated, and respect fixed nodes."""
    numbers = range(len(web)) if numbers is None else numbers
    found = []
    for potential in every_potential(web):
        gains = moved(web, before, potential)
        if all(gains[number] == after[number] for number in numbers):
            if all(potential[node] == 0 for node in fixed):
                found.append(potential)
    return found


def small_after(source, web, before):
    """Gains that can often be reached from the others by a small potential, and sometimes cannot."""
    low, high = (-1, 1) if web.modulus() == 0 else (0, web.modulus() - 1)
    after = moved(web, before, [source.randint(low, high) for node in range(web.size())])
    if after and source.random() < 0.2:
        at = source.randrange(len(after))
        after[at] = reduced(web, after[at] + 1)
    return after


def walk_ends(web, walk):
    """The nodes where a walk begins and ends; the steps must follow one another."""
    at = [web.edge(number)[::way] for number, way in walk]
    for one, two in zip(at, at[1:]):
        if one[1] != two[0]:
            raise AssertionError(f"{walk} is no walk")
    return at[0][0], at[-1][1]


def check_excluding(case, web, before, after, fixed, result, numbers=None):
    """Check that the result is a walk that excludes all potentials, of the numbered edges alone if stated.

    Returns whether it is a closed walk.
    """
    case.assertIs(tuple, type(result))
    word, walk = result
    case.assertIs(list, type(walk))
    start, finish = walk_ends(web, walk)
    if numbers is not None:
        case.assertTrue(all(number in numbers for number, way in walk))
    case.assertNotEqual(plain_sum(web, before, walk), plain_sum(web, after, walk))
    if word == "cycle":
        case.assertEqual(start, finish)
    else:
        case.assertEqual("fixed", word)
        case.assertNotEqual(start, finish)
        case.assertIn(start, fixed)
        case.assertIn(finish, fixed)
    return word == "cycle"


def excluded_by_cycles(web, before, after, numbers=None):
    """Whether a closed walk excludes all potentials: exactly if there is none even without fixed nodes."""
    return leading(web, before, after, (), numbers) == []
