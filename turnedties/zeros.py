"""Gains that are to be 0, and the edges at which they cannot be."""

from turnedties.arguments import check_gains
from turnedties.checks import are_different
from turnedties.equivalence import transform
from turnedties.errors import InvalidEdges, Unbalanced
from turnedties.residues import walk_sum
from turnedties.targets import reach, renumbered_walk, web_of


def balance(web, gains, *, fixed=()):
    """What reach returns for the target that is 0 at every edge."""
    return reach(web, gains, {number: 0 for number in range(len(web))}, fixed=fixed)


def blockers(web, gains, edges):
    """A dict from each other edge that cannot be 0 with all of these to a closed walk that shows it."""
    check_gains(web, gains)
    if not are_different(edges, len(web)):
        raise InvalidEdges(edges)
    numbers = sorted(edges)
    part = web_of(web, numbers)
    result = transform(part, [gains[number] for number in numbers], [0] * len(numbers))
    if result[0] == "cycle":
        raise Unbalanced(renumbered_walk(result[1], numbers))
    walks = {}
    for number in range(len(web)):
        tail, head = web.edge(number)
        path = part.path(head, tail)
        if number not in numbers and path is not None:
            walk = [(number, 1)] + renumbered_walk(path, numbers)
            if walk_sum(web, gains, walk) != 0:
                walks[number] = walk
    return walks
