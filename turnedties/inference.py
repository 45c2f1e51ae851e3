"""What the gains before and after a change tell about who switched."""

from turnedties.arguments import check_change
from turnedties.checks import are_different
from turnedties.equivalence import held_nodes, transform
from turnedties.errors import InvalidHands

MOST_HANDS = 8


def diagnose(web, before, after, *, fixed=()):
    """Which nodes were surely switched, which were surely not, and which alike."""
    result = transform(web, before, after, fixed=fixed)
    if result[0] != "potential":
        return result
    potential = result[1]
    groups = web.components()
    settled = sorted([node for group in groups if held_nodes(group, fixed) != [] for node in group])
    always = [node for node in settled if potential[node] != 0]
    never = [node for node in settled if potential[node] == 0]
    return "switched", always, never, [parted(potential, group) for group in groups]


def parted(potential, group):
    """The nodes of the group in lists with equal values, ordered by their first nodes."""
    parts = {}
    for node in group:
        parts.setdefault(potential[node], []).append(node)
    return list(parts.values())


def idle_hands(web, before, after, hands):
    """For each hand whether the others explain the change, None if not even all hands do."""
    potential = any_potential(web, before, after, hands)
    numbers = list(range(len(hands)))
    if potential is None or not explains(web, potential, hands, numbers):
        return None
    return [explains(web, potential, hands, numbers[:hand] + numbers[hand + 1:]) for hand in numbers]


def fewest_hands(web, before, after, hands):
    """The first smallest set of hands that explains the change, None if there is none."""
    potential = any_potential(web, before, after, hands)
    if potential is None:
        return None
    for chosen in sets_of_hands(len(hands)):
        if explains(web, potential, hands, chosen):
            return chosen
    return None


def any_potential(web, before, after, hands):
    """A potential that leads from before to after, whoever switched, None if there is none."""
    check_change(web, before, after)
    check_hands(web, hands)
    result = transform(web, before, after)
    if result[0] != "potential":
        return None
    return result[1]


def check_hands(web, hands):
    """Raise InvalidHands unless hands are hands of the web."""
    if not is_hands(web, hands):
        raise InvalidHands(hands)


def is_hands(web, thing):
    """Whether thing is a list or tuple of one to eight lists of different nodes."""
    if not isinstance(thing, (list, tuple)) or not 1 <= len(thing) <= MOST_HANDS:
        return False
    return all([isinstance(hand, list) and are_different(hand, web.size()) for hand in thing])


def explains(web, potential, hands, chosen):
    """Whether the chosen hands explain the change that the potential makes.

    The potential can be moved to be 0 at all other nodes if it has one value at those of each component.
    """
    free = [node for number in chosen for node in hands[number]]
    for group in web.components():
        if len({potential[node] for node in group if node not in free}) > 1:
            return False
    return True


def sets_of_hands(count):
    """All sets of that many hands as ascending lists, smaller ones first, then in the order of lists."""
    found = [[]]
    for number in range(count):
        found = found + [chosen + [number] for chosen in found]
    return sorted(found, key=lambda numbers: (len(numbers), numbers))
