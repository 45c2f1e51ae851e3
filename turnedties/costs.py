"""What potentials cost, the cheapest ones, and lower bounds of what they cost."""

from turnedties.arguments import check_change, check_fixed, check_potential, check_weights
from turnedties.checks import is_between, is_integer
from turnedties.equivalence import held_nodes, is_transform, transform
from turnedties.errors import InvalidModulus, InvalidPrices
from turnedties.residues import residue, size_of

MOST_PRICE = 10 ** 30


def cost(web, potential, *, weights=None):
    """The sum of weight times size of the potential over all nodes."""
    check_potential(web, potential)
    check_weights(web, weights)
    rates = rates_of(web, weights)
    return sum([rate * size_of(web, value) for rate, value in zip(rates, potential)])


def rates_of(web, weights):
    """The weights as a list with one for each node."""
    if weights is None:
        return [1] * web.size()
    return list(weights)


def cheapest(web, before, after, *, weights=None, fixed=()):
    """A potential with the lowest cost and this cost, or a walk that excludes all potentials."""
    check_change(web, before, after)
    check_weights(web, weights)
    rates = rates_of(web, weights)
    result = transform(web, before, after, fixed=fixed)
    return best_moved(web, result, fixed, lambda node, value: rates[node] * size_of(web, value))


def best_moved(web, result, fixed, price):
    """The potential of a transform with the lowest total price(node, value), and this; a walk stays."""
    if result[0] != "potential":
        return result
    potential = result[1]
    best, total = list(potential), 0
    for group in web.components():
        constants = [0]
        if held_nodes(group, fixed) == []:
            constants = constants_for(web, potential, group)
        # The potential is 0 at the first node of the group, so the constant is the value there.
        lowest, constant = min([(price_moved(web, potential, group, by, price), by) for by in constants])
        for node in group:
            best[node] = residue(web, potential[node] + constant)
        total = total + lowest
    return "potential", best, total


def constants_for(web, potential, group):
    """The constants among which, for any of the prices here, the smallest best one is.

    With modulus 0 a cost goes up or down steadily between the constants that make
    some node 0, and a count of nodes that are not 0 is highest there.
    """
    if web.modulus() == 0:
        return [-potential[node] for node in group]
    return list(range(web.modulus()))


def price_moved(web, potential, group, constant, price):
    """The price of the potential at the nodes of the group, after adding the constant there."""
    return sum([price(node, residue(web, potential[node] + constant)) for node in group])


def is_cheapest(web, before, after, thing, *, weights=None, fixed=()):
    """Whether thing is a tuple of the word, a potential with the lowest cost, and this cost."""
    result = cheapest(web, before, after, weights=weights, fixed=fixed)
    if result[0] != "potential" or not isinstance(thing, tuple) or len(thing) != 3:
        return False
    # No walk is accepted beside a potential, so this is about potentials alone.
    if not is_transform(web, before, after, thing[:2], fixed=fixed):
        return False
    total = cost(web, thing[1], weights=weights)
    return is_integer(thing[2]) and thing[2] == total and total == result[2]


def fewest(web, before, after, *, fixed=()):
    """A potential with the fewest nodes at which it is not 0, and how many, or a walk that excludes all."""
    result = transform(web, before, after, fixed=fixed)
    return best_moved(web, result, fixed, lambda node, value: int(value != 0))


def priced(web, before, after, prices, *, fixed=()):
    """A potential with the lowest total price, and this price, or a walk that excludes all potentials."""
    check_change(web, before, after)
    if not is_prices(web, prices):
        raise InvalidPrices(prices)
    check_fixed(web, fixed)
    if web.modulus() == 0:
        raise InvalidModulus(0)
    result = transform(web, before, after, fixed=fixed)
    return best_moved(web, result, fixed, lambda node, value: prices[node][value])


def is_prices(web, thing):
    """Whether thing is a list with one list of prices per node, with modulus 0 lists of any length."""
    if not isinstance(thing, list) or len(thing) != web.size():
        return False
    for row in thing:
        if not isinstance(row, list) or web.modulus() not in (0, len(row)):
            return False
        if not all([is_between(entry, 0, MOST_PRICE) for entry in row]):
            return False
    return True


def lower_bound(web, before, after, *, weights=None, fixed=()):
    """Slopes and a total that show the lowest cost, or a walk that excludes all potentials."""
    check_bounded(web, before, after, weights, fixed)
    result = cheapest(web, before, after, weights=weights, fixed=fixed)
    if result[0] != "potential":
        return result
    return slopes_at(web, result[1], rates_of(web, weights), fixed), result[2]


def check_bounded(web, before, after, weights, fixed):
    """Raise what is wrong with the arguments of a lower bound."""
    check_change(web, before, after)
    check_weights(web, weights)
    check_fixed(web, fixed)
    if web.modulus() != 0:
        raise InvalidModulus(web.modulus())


def slopes_at(web, potential, rates, fixed):
    """Slopes that show that no potential costs less than this one, which is a cheapest one."""
    slopes = [rate * sign_of(value) for rate, value in zip(rates, potential)]
    for group in web.components():
        if held_nodes(group, fixed) == []:
            rest = -sum([slopes[node] for node in group])
            for node in group:
                if potential[node] == 0:
                    # A cheapest potential is 0 at nodes whose weights suffice to take up the rest.
                    slopes[node] = max(-rates[node], min(rates[node], rest))
                    rest = rest - slopes[node]
    return slopes


def sign_of(number):
    """1, 0 or -1, as the number is positive, 0 or negative."""
    return int(number > 0) - int(number < 0)


def is_lower_bound(web, before, after, thing, *, weights=None, fixed=()):
    """Whether thing is a tuple of slopes and their total; False if there is no potential."""
    check_bounded(web, before, after, weights, fixed)
    result = transform(web, before, after, fixed=fixed)
    if result[0] != "potential" or not isinstance(thing, tuple) or len(thing) != 2:
        return False
    slopes, total = thing
    if not are_slopes(web, slopes, rates_of(web, weights), fixed) or not is_integer(total):
        return False
    return total == sum([slope * value for slope, value in zip(slopes, result[1])])


def are_slopes(web, thing, rates, fixed):
    """Whether thing is slopes of a lower bound for these weights and fixed nodes."""
    if not isinstance(thing, list) or len(thing) != web.size():
        return False
    if not all([is_between(slope, -rate, rate) for slope, rate in zip(thing, rates)]):
        return False
    free = [group for group in web.components() if held_nodes(group, fixed) == []]
    return all([sum([thing[node] for node in group]) == 0 for group in free])
