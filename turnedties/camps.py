"""Webs of friends and foes, which have the modulus 2, and the two camps into which they split."""

from turnedties.arguments import check_gains
from turnedties.checks import are_different, is_worded
from turnedties.equivalence import is_transform, transform
from turnedties.errors import InvalidModulus


def camps(web, gains):
    """Two camps with friends in the same one and foes in different ones, or a closed walk that excludes them."""
    check_friends(web, gains)
    # Gains that are all 0 are reached by switching exactly the nodes of one camp.
    word, found = transform(web, gains, no_foes(web))
    if word != "potential":
        return word, found
    nodes = list(range(web.size()))
    return "camps", [node for node in nodes if found[node] == 0], [node for node in nodes if found[node] == 1]


def check_friends(web, gains):
    """Raise InvalidGains, or InvalidModulus unless the modulus is 2."""
    check_gains(web, gains)
    if web.modulus() != 2:
        raise InvalidModulus(web.modulus())


def no_foes(web):
    """The gains of the web if all its edges join friends."""
    return [0] * len(web)


def is_camps(web, gains, thing):
    """Whether thing is one of the tuples that camps may return; the first nodes may be in either camp."""
    check_friends(web, gains)
    if is_worded(thing, 2):
        return thing[0] == "cycle" and is_transform(web, gains, no_foes(web), thing)
    if not is_worded(thing, 3) or thing[0] != "camps":
        return False
    left, right = thing[1:]
    if not is_camp(web, left) or not is_camp(web, right):
        return False
    if sorted(left + right) != list(range(web.size())):
        return False
    potential = [int(node in right) for node in range(web.size())]
    return is_transform(web, gains, no_foes(web), ("potential", potential))


def is_camp(web, thing):
    """Whether thing is an ascending list of nodes."""
    return isinstance(thing, list) and are_different(thing, web.size()) and thing == sorted(thing)
