"""Which gains can be switched to which, with walks that show where they cannot."""

from turnedties.arguments import check_change, check_fixed, check_gains
from turnedties.checks import is_worded
from turnedties.residues import is_potential, residue, walk_sum
from turnedties.webs import ends_of, is_closed, is_walk


def transform(web, before, after, *, fixed=()):
    """A potential that leads from before to after, or a walk that excludes all of them."""
    check_change(web, before, after)
    check_fixed(web, fixed)
    changes = changes_of(web, before, after)
    potential = forest_potential(web, changes)
    for number, (tail, head) in enumerate(web.edges()):
        if not is_made(web, potential, number, changes[number]):
            return "cycle", [(number, 1)] + web.path(head, tail)
    for group in web.components():
        held = held_nodes(group, fixed)
        for node in held[1:]:
            if potential[node] != potential[held[0]]:
                return "fixed", web.path(held[0], node)
    return "potential", anchored(web, potential, fixed)


def changes_of(web, before, after):
    """How much is to be added to the gain of each edge."""
    return [residue(web, new - old) for old, new in zip(before, after)]


def forest_potential(web, changes):
    """The potential that is 0 at the first nodes and makes the changes at the edges of the forest."""
    potential = [0] * web.size()
    for group in web.components():
        for node in group:
            path = web.path(group[0], node)
            # A step from tail to head goes down by the change of its edge.
            potential[node] = residue(web, -change_along(changes, path))
    return potential


def change_along(changes, walk):
    """The sum of way times change over the steps of the walk, not reduced."""
    return sum([way * changes[number] for number, way in walk])


def is_made(web, potential, number, change):
    """Whether the potential adds the change to the gain of the numbered edge."""
    tail, head = web.edge(number)
    return residue(web, potential[tail] - potential[head]) == change


def held_nodes(group, fixed):
    """The nodes of the group that are fixed."""
    return [node for node in group if node in fixed]


def anchored(web, potential, fixed):
    """The potential moved in each component to be 0 at a fixed node, or at its first node if none is fixed."""
    moved = list(potential)
    for group in web.components():
        anchor = (held_nodes(group, fixed) + group)[0]
        for node in group:
            moved[node] = residue(web, potential[node] - potential[anchor])
    return moved


def is_transform(web, before, after, thing, *, fixed=()):
    """Whether thing is one of the tuples that transform may return."""
    check_change(web, before, after)
    check_fixed(web, fixed)
    return is_certificate(web, dict(enumerate(changes_of(web, before, after))), thing, fixed)


def is_certificate(web, changes, thing, fixed):
    """Whether thing is a potential that makes the changes, a dict from edges, or a walk that excludes them."""
    if not is_worded(thing, 2):
        return False
    word, found = thing
    if word == "potential":
        return is_potential(web, found) and makes_all(web, changes, found, fixed)
    if word == "cycle":
        return is_closed(web, found) and is_excluding(web, changes, found)
    if word == "fixed":
        return joins_fixed(web, found, fixed) and is_excluding(web, changes, found)
    return False


def makes_all(web, changes, potential, fixed):
    """Whether the potential makes all changes and is 0 at the fixed nodes."""
    if not all([potential[node] == 0 for node in fixed]):
        return False
    return all([is_made(web, potential, number, change) for number, change in changes.items()])


def is_excluding(web, changes, walk):
    """Whether the walk keeps to the edges of the changes, and these do not add up to 0 along it."""
    if not all([number in changes for number, way in walk]):
        return False
    return residue(web, change_along(changes, walk)) != 0


def joins_fixed(web, thing, fixed):
    """Whether thing is a walk from a fixed node to a different fixed node."""
    if not is_walk(web, thing):
        return False
    start, finish = ends_of(web, thing)
    return start != finish and start in fixed and finish in fixed


def cycle_sums(web, gains):
    """The sums of the cycles of the web."""
    check_gains(web, gains)
    return [walk_sum(web, gains, cycle) for cycle in web.cycles()]


def normal(web, gains):
    """The gains of the same class that are 0 at each edge of the forest."""
    sums = cycle_sums(web, gains)
    reduced = [0] * len(web)
    for cycle, total in zip(web.cycles(), sums):
        reduced[cycle[0][0]] = total
    return reduced


def class_size(web):
    """How many gains can be reached from given gains, None if infinitely many."""
    return choices(web.modulus(), len(web.forest()))


def class_count(web):
    """How many different normal gains there are, None if infinitely many."""
    return choices(web.modulus(), len(web) - len(web.forest()))


def potential_count(web):
    """How many potentials lead from gains to gains that can be reached, None if infinitely many."""
    return choices(web.modulus(), len(web.components()))


def choices(modulus, places):
    """In how many ways residues can be put in that many places, None if in infinitely many."""
    if places == 0:
        return 1
    if modulus == 0:
        return None
    count = 1
    for place in range(places):
        count = count * modulus
    return count
