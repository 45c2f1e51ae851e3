"""Switching nodes, one by one and all at once by a potential."""

from turnedties.arguments import check_gains, check_node, check_potential
from turnedties.checks import is_between, is_integer
from turnedties.errors import InvalidAmount, InvalidSwitch
from turnedties.residues import residue


def switch(web, gains, node, amount):
    """The gains after switching the node by the amount."""
    check_gains(web, gains)
    check_node(web, node)
    if not is_integer(amount):
        raise InvalidAmount(amount)
    return switched(web, gains, potential_of(web, [(node, amount)]))


def switched(web, gains, potential):
    """The gains to which the potential leads."""
    check_gains(web, gains)
    check_potential(web, potential)
    return [
        residue(web, gain + potential[tail] - potential[head])
        for gain, (tail, head) in zip(gains, web.edges())
    ]


def is_switch(web, thing):
    """Whether thing is a tuple of a node and an amount."""
    if not isinstance(thing, tuple) or len(thing) != 2:
        return False
    node, amount = thing
    return is_between(node, 0, web.size() - 1) and is_integer(amount)


def potential_of(web, switches):
    """The sum of the amounts at each node, as a potential."""
    if not isinstance(switches, list):
        raise InvalidSwitch(switches)
    for entry in switches:
        if not is_switch(web, entry):
            raise InvalidSwitch(entry)
    potential = [0] * web.size()
    for node, amount in switches:
        potential[node] = residue(web, potential[node] + amount)
    return potential


def added(web, potential, other):
    """The sum of two potentials."""
    check_potential(web, potential)
    check_potential(web, other)
    return [residue(web, value + more) for value, more in zip(potential, other)]


def negated(web, potential):
    """The potential that undoes the given one."""
    check_potential(web, potential)
    return [residue(web, -value) for value in potential]
