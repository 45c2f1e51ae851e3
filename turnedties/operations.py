"""The operations of a board, each as a function from a state to the next one.

A state is a tuple of a web, gains, and ascending fixed nodes. Nothing in it is
ever changed: an operation that raises an exception, or that is undone later,
leaves the states before it as they were. Each function returns a tuple of the
next state and the result of the operation.
"""

from turnedties.arguments import check_node
from turnedties.errors import Fixed, NotFixed, TooMany
from turnedties.moduli import reduced, reduced_gains
from turnedties.residues import residue
from turnedties.switching import switch, switched
from turnedties.webs import MOST_NODES, Web


def switch_node(state, node, amount):
    """Switch a node that is not fixed."""
    web, gains, fixed = state
    after = switch(web, gains, node, amount)
    if node in fixed:
        raise Fixed(node)
    return (web, after, fixed), None


def switch_all(state, potential):
    """Switch all nodes by a potential that respects the fixed nodes."""
    web, gains, fixed = state
    after = switched(web, gains, potential)
    for node in fixed:
        if potential[node] != 0:
            raise Fixed(node)
    return (web, after, fixed), None


def set_gain(state, number, gain):
    """Give an edge another gain."""
    web, gains, fixed = state
    # Asked for alone because the web knows which numbers it has.
    web.edge(number)
    after = list(gains)
    after[number] = residue(web, gain)
    return (web, after, fixed), None


def add_edge(state, tail, head, gain):
    """Append an edge; its number is the result."""
    web, gains, fixed = state
    check_node(web, tail)
    check_node(web, head)
    new_gain = residue(web, gain)
    # Nothing else can be wrong any more, so a web refuses only one edge too many.
    wider = Web(web.size(), web.edges() + [(tail, head)], modulus=web.modulus())
    return (wider, gains + [new_gain], fixed), len(web)


def remove_edge(state, number):
    """Remove an edge; its ends and its gain are the result."""
    web, gains, fixed = state
    tail, head = web.edge(number)
    edges = web.edges()
    narrower = Web(web.size(), edges[:number] + edges[number + 1:], modulus=web.modulus())
    return (narrower, gains[:number] + gains[number + 1:], fixed), (tail, head, gains[number])


def add_node(state):
    """Append a node without edges; it is the result."""
    web, gains, fixed = state
    if web.size() == MOST_NODES:
        raise TooMany(web.size() + 1)
    return (Web(web.size() + 1, web.edges(), modulus=web.modulus()), gains, fixed), web.size()


def fix_node(state, node):
    """Fix a node that is not fixed."""
    web, gains, fixed = state
    check_node(web, node)
    if node in fixed:
        raise Fixed(node)
    return (web, gains, sorted(fixed + [node])), None


def release_node(state, node):
    """Release a node that is fixed."""
    web, gains, fixed = state
    check_node(web, node)
    if node not in fixed:
        raise NotFixed(node)
    return (web, gains, [other for other in fixed if other != node]), None


def reduce_modulus(state, modulus):
    """Replace the modulus by one that divides it, and the gains by their residues."""
    web, gains, fixed = state
    return (reduced(web, modulus), reduced_gains(web, gains, modulus), fixed), None


ACTIONS = {
    "switch": switch_node,
    "apply": switch_all,
    "set_gain": set_gain,
    "add_edge": add_edge,
    "remove_edge": remove_edge,
    "add_node": add_node,
    "fix": fix_node,
    "release": release_node,
    "reduce": reduce_modulus,
}

# How many arguments stand behind each of the names.
COUNTS = {
    "switch": 2,
    "apply": 1,
    "set_gain": 2,
    "add_edge": 3,
    "remove_edge": 1,
    "add_node": 0,
    "fix": 1,
    "release": 1,
    "reduce": 1,
}


def is_operation(thing):
    """Whether thing is a tuple of the name of an operation and as many arguments as it takes."""
    if not isinstance(thing, tuple) or len(thing) == 0 or not isinstance(thing[0], str):
        return False
    return thing[0] in COUNTS and len(thing) == 1 + COUNTS[thing[0]]


def performed(state, operation):
    """The next state and the result of an operation, a tuple of its name and its arguments."""
    action = ACTIONS[operation[0]]
    arguments = operation[1:]
    return action(state, *arguments)
