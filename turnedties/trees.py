"""The smallest sets of edges to leave out of a target, and trees that show that no smaller one suffices."""

from turnedties.checks import is_between
from turnedties.equivalence import change_along, is_excluding
from turnedties.errors import InvalidMost, TooMany
from turnedties.residues import residue
from turnedties.targets import changes_to, check_aim
from turnedties.webs import is_closed, ties_of, ways_from

MOST_LEFT = 3
MOST_NODES = 12


def fewest_left(web, gains, target, *, most=2):
    """A smallest set of edges to leave out, None if it has more than most, and a tree that shows it."""
    check_aim(web, gains, target)
    check_count(most)
    if web.size() > MOST_NODES:
        raise TooMany(web.size())
    changes = changes_to(web, gains, target)
    tree = None
    for count in range(most + 1):
        edges, found = left_or_tree(web, changes, count)
        if edges is not None:
            return edges, tree
        tree = found
    return None, tree


def check_count(count):
    """Raise InvalidMost unless count is a number of edges that may be left out."""
    if not is_between(count, 0, MOST_LEFT):
        raise InvalidMost(count)


def left_or_tree(web, changes, count):
    """At most count edges to leave out and None, or None and a tree for the count."""
    walk = wrong_walk(web, changes)
    if walk is None:
        return [], None
    if count == 0:
        return None, (walk, [])
    branches = []
    for number in edges_of(walk):
        edges, tree = left_or_tree(web, without(changes, number), count - 1)
        if edges is not None:
            return sorted([number] + edges), None
        branches.append(tree)
    return None, (walk, branches)


def edges_of(walk):
    """The different edges of the walk, ascending."""
    return sorted({number for number, way in walk})


def without(changes, number):
    """The changes at all other edges."""
    return {other: changes[other] for other in changes if other != number}


def wrong_walk(web, changes):
    """A short closed walk along which the changes do not add up to 0, None if there is none."""
    ways = ways_of(web, list(changes))
    heights = {node: change_along(changes, ways[node]) for node in ways}
    walks = []
    for number, change in changes.items():
        tail, head = web.edge(number)
        if residue(web, heights[tail] + change - heights[head]) != 0:
            walks.append(closed_over(number, ways[tail], ways[head]))
    # Each edge of the walk is a branch of the tree, so a short one keeps the tree small.
    return min(walks, key=len, default=None)


def ways_of(web, numbers):
    """For each node the steps to it over the numbered edges, from the first node that they connect with it."""
    ties = ties_of(web.size(), web.edges(), numbers)
    ways = {}
    for start in range(web.size()):
        if start not in ways:
            ways.update(ways_from(ties, start))
    return ways


def closed_over(number, to_tail, to_head):
    """The step over the edge, then back from its head and on to its tail as the two ways came there."""
    shared = 0
    while shared < min(len(to_tail), len(to_head)) and to_tail[shared] == to_head[shared]:
        shared += 1
    back = [(other, -way) for other, way in to_head[shared:]]
    return [(number, 1)] + back[::-1] + to_tail[shared:]


def is_tree(web, gains, target, count, thing):
    """Whether thing is a tree that shows that more than count edges must be left out."""
    check_aim(web, gains, target)
    check_count(count)
    return shows(web, changes_to(web, gains, target), count, thing)


def shows(web, changes, count, thing):
    """Whether thing is a tree for the count and the target that wants these changes."""
    if not isinstance(thing, tuple) or len(thing) != 2:
        return False
    walk, branches = thing
    if not is_closed(web, walk) or not is_excluding(web, changes, walk):
        return False
    numbers = [] if count == 0 else edges_of(walk)
    if not isinstance(branches, list) or len(branches) != len(numbers):
        return False
    for number, branch in zip(numbers, branches):
        if not shows(web, without(changes, number), count - 1, branch):
            return False
    return True
