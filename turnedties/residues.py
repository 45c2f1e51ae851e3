"""Residues of a web, lists of them, and the sum of a walk."""

from turnedties.checks import is_integer
from turnedties.errors import InvalidAmount, InvalidGains, InvalidWalk
from turnedties.webs import is_walk


def residue(web, number):
    """The integer, reduced by the modulus of the web."""
    if not is_integer(number):
        raise InvalidAmount(number)
    if web.modulus() == 0:
        return number
    return number % web.modulus()


def size_of(web, number):
    """How far the integer is from 0, going up or down around the modulus."""
    reduced = residue(web, number)
    if web.modulus() == 0:
        return abs(reduced)
    return min(reduced, web.modulus() - reduced)


def is_residue(web, thing):
    """Whether thing is a residue of the web."""
    return is_integer(thing) and thing == residue(web, thing)


def are_residues(web, thing, count):
    """Whether thing is a list of that many residues of the web."""
    if not isinstance(thing, list) or len(thing) != count:
        return False
    return all([is_residue(web, entry) for entry in thing])


def is_gains(web, thing):
    """Whether thing is gains of the web: a list with one residue per edge."""
    return are_residues(web, thing, len(web))


def is_potential(web, thing):
    """Whether thing is a potential of the web: a list with one residue per node."""
    return are_residues(web, thing, web.size())


def walk_sum(web, gains, walk):
    """The sum of way times gain over the steps of the walk, reduced to a residue."""
    if not is_gains(web, gains):
        raise InvalidGains(gains)
    if not is_walk(web, walk):
        raise InvalidWalk(walk)
    return residue(web, sum([way * gains[number] for number, way in walk]))
