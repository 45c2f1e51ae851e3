"""Crews: hands that carry out a cheapest potential by unit switches, in any order."""

from turnedties.arguments import check_change
from turnedties.checks import is_between
from turnedties.costs import cheapest, cost
from turnedties.errors import InvalidHands, NoHand, Unreachable
from turnedties.inference import check_hands
from turnedties.residues import residue
from turnedties.switching import switch


class Crew:
    """The present gains, what is left to be done, and the hands that do it."""

    def __init__(self, web, before, after, hands, *, fixed=()):
        check_change(web, before, after)
        check_hands(web, hands)
        result = cheapest(web, before, after, fixed=fixed)
        if result[0] != "potential":
            raise Unreachable(result)
        if not can_share(hands, result[1]):
            raise InvalidHands(hands)
        self.crew_web = web
        self.present_gains = list(before)
        self.open_rest = result[1]
        self.hand_nodes = [list(hand) for hand in hands]
        self.switches = []

    def step(self, hand):
        """Let a hand do its next unit switch; the node and the amount, or None if it has nothing left to do."""
        if not is_between(hand, 0, len(self.hand_nodes) - 1):
            raise NoHand(hand)
        for node in self.hand_nodes[hand]:
            if self.open_rest[node] != 0:
                amount = next_amount(self.crew_web, self.open_rest[node])
                self.present_gains = switch(self.crew_web, self.present_gains, node, amount)
                self.open_rest[node] = residue(self.crew_web, self.open_rest[node] - amount)
                self.switches.append((hand, node, amount))
                return node, amount
        return None

    def run(self, hands):
        """Let hands work one after the other; what their steps return."""
        if not isinstance(hands, (list, tuple)):
            raise NoHand(hands)
        results = []
        for hand in hands:
            results.append(self.step(hand))
        return results

    def gains(self):
        """The present gains."""
        return list(self.present_gains)

    def rest(self):
        """The potential that leads from the present gains to those after."""
        return list(self.open_rest)

    def left(self):
        """How many unit switches are left to be done."""
        return cost(self.crew_web, self.open_rest)

    def done(self):
        """Whether nothing is left to be done."""
        return self.left() == 0

    def log(self):
        """The switches so far, as tuples of the hand, the node and the amount."""
        return list(self.switches)

    def twin(self):
        """An independent copy."""
        # Any hands can do nothing: the copy begins so, and then gets what is left to be done.
        other = Crew(self.crew_web, self.present_gains, self.present_gains, self.hand_nodes)
        other.open_rest = list(self.open_rest)
        other.switches = list(self.switches)
        return other

    def __len__(self):
        return len(self.switches)


def can_share(hands, potential):
    """Whether no node belongs to two hands, and each node at which the potential is not 0 to one."""
    nodes = [node for hand in hands for node in hand]
    if len(set(nodes)) != len(nodes):
        return False
    return all([value == 0 or node in nodes for node, value in enumerate(potential)])


def next_amount(web, rest):
    """1 or -1, whichever makes a rest that is not 0 smaller; 1 if both do."""
    if web.modulus() == 0:
        return 1 if rest > 0 else -1
    return 1 if 2 * rest <= web.modulus() else -1
