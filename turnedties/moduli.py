"""Moduli that divide a modulus: the same web modulo a smaller number, and back from all its factors."""

from turnedties.arguments import check_change, check_gains, check_potential
from turnedties.checks import is_between
from turnedties.equivalence import changes_of, cycle_sums
from turnedties.errors import InvalidModulus, InvalidPotential
from turnedties.webs import LEAST_MODULUS, MOST_MODULUS, Web


def reduced(web, modulus):
    """The web with a modulus that divides its own."""
    check_divisor(web, modulus)
    return Web(web.size(), web.edges(), modulus=modulus)


def check_divisor(web, modulus):
    """Raise InvalidModulus unless the modulus can take the place of that of the web."""
    # Everything divides 0, so with modulus 0 each of these integers will do.
    if not is_between(modulus, LEAST_MODULUS, MOST_MODULUS) or web.modulus() % modulus != 0:
        raise InvalidModulus(modulus)


def reduced_gains(web, gains, modulus):
    """The residues of the gains for a modulus that divides that of the web."""
    check_gains(web, gains)
    check_divisor(web, modulus)
    return [gain % modulus for gain in gains]


def separating(web, before, after):
    """The smallest modulus for which the reduced gains cannot be switched to one another, None if there is none."""
    check_change(web, before, after)
    if web.modulus() != 0:
        raise InvalidModulus(web.modulus())
    sums = cycle_sums(web, changes_of(web, before, after))
    for modulus in range(LEAST_MODULUS, MOST_MODULUS + 1):
        if any([total % modulus != 0 for total in sums]):
            return modulus
    return None


def factors(web):
    """The powers of different primes whose product is the modulus, ascending."""
    if web.modulus() == 0:
        raise InvalidModulus(0)
    rest, powers = web.modulus(), []
    for number in range(LEAST_MODULUS, web.modulus() + 1):
        power = 1
        # Smaller primes are divided out before, so only a prime divides the rest.
        while rest % number == 0:
            rest = rest // number
            power = power * number
        if power > 1:
            powers.append(power)
    return sorted(powers)


def combined(web, potentials):
    """The potential whose residues modulo each factor are the given ones."""
    powers = factors(web)
    if not isinstance(potentials, (list, tuple)) or len(potentials) != len(powers):
        raise InvalidPotential(potentials)
    for power, potential in zip(powers, potentials):
        check_potential(reduced(web, power), potential)
    values = {tuple([value % power for power in powers]): value for value in range(web.modulus())}
    return [values[tuple([potential[node] for potential in potentials])] for node in range(web.size())]
