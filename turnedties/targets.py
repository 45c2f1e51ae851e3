"""Targets for some of the edges: whether they can be reached, and at what cost."""

from turnedties.arguments import check_fixed, check_gains
from turnedties.checks import is_between
from turnedties.costs import cheapest
from turnedties.equivalence import is_certificate, transform
from turnedties.errors import InvalidTarget
from turnedties.residues import is_residue, residue
from turnedties.webs import Web


def reach(web, gains, target, *, fixed=()):
    """A potential that meets the target, or a walk of its edges that excludes all of them."""
    check_aim(web, gains, target)
    numbers = sorted(target)
    before, after = aimed(gains, target)
    return renumbered(transform(web_of(web, numbers), before, after, fixed=fixed), numbers)


def is_target(web, thing):
    """Whether thing is a dict from numbers of edges to residues."""
    if not isinstance(thing, dict):
        return False
    if not all([is_between(number, 0, len(web) - 1) for number in thing]):
        return False
    return all([is_residue(web, gain) for gain in thing.values()])


def check_aim(web, gains, target):
    """Raise InvalidGains or InvalidTarget, whichever holds first."""
    check_gains(web, gains)
    if not is_target(web, target):
        raise InvalidTarget(target)


def web_of(web, numbers):
    """The web that has all nodes, and only the numbered edges."""
    return Web(web.size(), [web.edge(number) for number in numbers], modulus=web.modulus())


def aimed(gains, target):
    """The gains of the edges of the target in ascending order, and what it wants them to be."""
    numbers = sorted(target)
    return [gains[number] for number in numbers], [target[number] for number in numbers]


def renumbered(result, numbers):
    """What was found in the web of the numbered edges, with their own numbers in its walk."""
    if result[0] == "potential":
        return result
    return result[0], renumbered_walk(result[1], numbers)


def renumbered_walk(walk, numbers):
    """A walk in the web of the numbered edges, with their own numbers."""
    return [(numbers[at], way) for at, way in walk]


def is_reach(web, gains, target, thing, *, fixed=()):
    """Whether thing is one of the tuples that reach may return."""
    check_aim(web, gains, target)
    check_fixed(web, fixed)
    return is_certificate(web, changes_to(web, gains, target), thing, fixed)


def changes_to(web, gains, target):
    """A dict from each edge of the target, ascending, to how much is to be added to its gain."""
    return {number: residue(web, target[number] - gains[number]) for number in sorted(target)}


def unmet(web, gains, target):
    """The edges at which the gains are not as the target says, ascending."""
    check_aim(web, gains, target)
    return [number for number in sorted(target) if gains[number] != target[number]]


def reach_cheapest(web, gains, target, *, weights=None, fixed=()):
    """A cheapest potential that meets the target and its cost, or a walk that excludes all of them."""
    check_aim(web, gains, target)
    numbers = sorted(target)
    before, after = aimed(gains, target)
    result = cheapest(web_of(web, numbers), before, after, weights=weights, fixed=fixed)
    return renumbered(result, numbers)
