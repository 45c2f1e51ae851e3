"""Several webs on the same nodes that are switched together, by one potential."""

from turnedties.arguments import check_fixed, check_gains
from turnedties.checks import is_between, is_worded
from turnedties.equivalence import changes_of, forest_potential, is_made, is_transform, transform
from turnedties.errors import InvalidGains, InvalidWebs
from turnedties.residues import residue
from turnedties.webs import Web, are_linked, grown_forest, is_step, step_ends

MOST_WEBS = 6


def transform_all(webs, befores, afters, *, fixed=()):
    """A potential that leads from before to after in every web, or a joint walk that excludes all of them."""
    check_joint(webs, befores, afters, fixed)
    changes = joint_changes(webs, befores, afters)
    forest, places = joint_forest(webs)
    wanted = [changes[number][edge] for number, edge in places]
    potential = forest_potential(forest, wanted)
    for number, web in enumerate(webs):
        for edge, (tail, head) in enumerate(web.edges()):
            if not is_made(web, potential, edge, changes[number][edge]):
                return "cycle", [(number, edge, 1)] + joint_walk(forest.path(head, tail), places)
    # A forest has no cycles, so only fixed nodes can still exclude a potential.
    word, found = transform(forest, [0] * len(forest), wanted, fixed=fixed)
    if word == "fixed":
        return word, joint_walk(found, places)
    return word, found


def is_webs(thing):
    """Whether thing is a list or tuple of one to six webs with the same size and the same modulus."""
    if not isinstance(thing, (list, tuple)) or not 1 <= len(thing) <= MOST_WEBS:
        return False
    if not all([isinstance(web, Web) for web in thing]):
        return False
    first = thing[0]
    return all([web.size() == first.size() and web.modulus() == first.modulus() for web in thing])


def check_joint(webs, befores, afters, fixed):
    """Raise what is wrong with the arguments of several webs."""
    if not is_webs(webs):
        raise InvalidWebs(webs)
    check_gains_of_all(webs, befores)
    check_gains_of_all(webs, afters)
    check_fixed(webs[0], fixed)


def check_gains_of_all(webs, rows):
    """Raise InvalidGains unless rows are a list or tuple with gains for each web."""
    if not isinstance(rows, (list, tuple)) or len(rows) != len(webs):
        raise InvalidGains(rows)
    for web, gains in zip(webs, rows):
        check_gains(web, gains)


def joint_changes(webs, befores, afters):
    """For each web, how much is to be added to the gain of each of its edges."""
    return [changes_of(web, before, after) for web, before, after in zip(webs, befores, afters)]


def joint_forest(webs):
    """The forest of the edges of all webs, as a web, and the web's number and the edge for each of its edges.

    All edges together may be more than a web can have, but a forest has less edges than nodes.
    """
    places = [(number, edge) for number, web in enumerate(webs) for edge in range(len(web))]
    pairs = [webs[number].edge(edge) for number, edge in places]
    chosen = grown_forest(webs[0].size(), pairs)[0]
    forest = Web(webs[0].size(), [pairs[at] for at in chosen], modulus=webs[0].modulus())
    return forest, [places[at] for at in chosen]


def joint_walk(walk, places):
    """A walk in the web of the forest, as joint steps."""
    return [(places[at][0], places[at][1], way) for at, way in walk]


def is_transform_all(webs, befores, afters, thing, *, fixed=()):
    """Whether thing is one of the tuples that transform_all may return."""
    check_joint(webs, befores, afters, fixed)
    if not is_worded(thing, 2):
        return False
    word, found = thing
    if word == "potential":
        rows = list(zip(webs, befores, afters))
        return all([is_transform(web, before, after, thing, fixed=fixed) for web, before, after in rows])
    if not is_joint_walk(webs, found):
        return False
    changes = joint_changes(webs, befores, afters)
    if residue(webs[0], sum([way * changes[number][edge] for number, edge, way in found])) == 0:
        return False
    start, finish = joint_step_ends(webs, found[0])[0], joint_step_ends(webs, found[-1])[1]
    if word == "cycle":
        return start == finish
    return word == "fixed" and start != finish and start in fixed and finish in fixed


def is_joint_walk(webs, thing):
    """Whether thing is a joint walk of the webs."""
    if not isinstance(thing, list) or len(thing) == 0:
        return False
    if not all([is_joint_step(webs, entry) for entry in thing]):
        return False
    return are_linked([joint_step_ends(webs, step) for step in thing])


def is_joint_step(webs, thing):
    """Whether thing is the number of a web and a step of it, in one tuple."""
    if not isinstance(thing, tuple) or len(thing) != 3:
        return False
    return is_between(thing[0], 0, len(webs) - 1) and is_step(webs[thing[0]], thing[1:])


def joint_step_ends(webs, step):
    """The node where the joint step begins and the node where it ends."""
    number, edge, way = step
    return step_ends(webs[number], (edge, way))
