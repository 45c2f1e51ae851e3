"""Checks of the arguments that many functions take: each raises what is wrong with its argument."""

from turnedties.checks import are_different, is_between, is_integer
from turnedties.errors import InvalidFixed, InvalidGains, InvalidNode, InvalidPotential, InvalidWeights
from turnedties.residues import is_gains, is_potential


def check_gains(web, gains):
    """Raise InvalidGains unless gains are gains of the web."""
    if not is_gains(web, gains):
        raise InvalidGains(gains)


def check_change(web, before, after):
    """Raise InvalidGains unless both, looked at in this order, are gains of the web."""
    check_gains(web, before)
    check_gains(web, after)


def check_potential(web, potential):
    """Raise InvalidPotential unless potential is a potential of the web."""
    if not is_potential(web, potential):
        raise InvalidPotential(potential)


def check_node(web, node):
    """Raise InvalidNode unless node is a node of the web."""
    if not is_between(node, 0, web.size() - 1):
        raise InvalidNode(node)


def check_fixed(web, fixed):
    """Raise InvalidFixed unless fixed is a list or tuple of different nodes."""
    if not are_different(fixed, web.size()):
        raise InvalidFixed(fixed)


def is_weights(web, thing):
    """Whether thing is None, or a list or tuple with one integer of at least 1 per node."""
    if thing is None:
        return True
    if not isinstance(thing, (list, tuple)) or len(thing) != web.size():
        return False
    return all([is_integer(entry) and entry >= 1 for entry in thing])


def check_weights(web, weights):
    """Raise InvalidWeights unless weights are weights of the web."""
    if not is_weights(web, weights):
        raise InvalidWeights(weights)
