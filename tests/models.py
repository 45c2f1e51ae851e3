"""Plain models, written from the document alone, to which boards, crews and desks are compared step by step."""

import copy

from turnedties.errors import (
    Fixed, InvalidAmount, InvalidModulus, InvalidNode, InvalidOperation, InvalidPotential, NoEdge, NotFixed,
    NothingToUndo, TooMany,
)
from turnedties.webs import Web

OPERATIONS = {
    "switch": 2, "apply": 1, "set_gain": 2, "add_edge": 3, "remove_edge": 1, "add_node": 0, "fix": 1, "release": 1,
    "reduce": 1,
}


class Refused(Exception):
    """An operation of a model was refused with an error and its value."""

    def __init__(self, error, value=None):
        self.error = error
        self.value = value


def is_number(thing, low=None, high=None):
    """Whether thing is an integer between the bounds."""
    if not isinstance(thing, int) or isinstance(thing, bool):
        return False
    return (low is None or thing >= low) and (high is None or thing <= high)


class PlainBoard:
    """A board that keeps a deep copy of every former state."""

    def __init__(self, web, gains, fixed=()):
        self.size, self.edges, self.modulus = web.size(), web.edges(), web.modulus()
        self.gains, self.fixed = list(gains), sorted(fixed)
        self.log = []
        self.past = []

    def state(self):
        return copy.deepcopy([self.size, self.edges, self.modulus, self.gains, self.fixed])

    def put_back(self, state):
        self.size, self.edges, self.modulus, self.gains, self.fixed = copy.deepcopy(state)

    def web(self):
        return Web(self.size, self.edges, modulus=self.modulus)

    def residue(self, number):
        return number % self.modulus if self.modulus else number

    def do(self, name, *arguments):
        """The result of an operation; Refused with the error and its value if it raises one."""
        before = self.state()
        try:
            if name == "undo":
                return self.undo()
            if name == "together":
                result = self.together(*arguments)
                arguments = (list(arguments[0]),)
            else:
                result = getattr(self, "do_" + name)(*arguments)
        except Refused:
            self.put_back(before)
            raise
        self.log.append(copy.deepcopy((name, *arguments)))
        self.past.append(before)
        return result

    def undo(self):
        if not self.past:
            raise Refused(NothingToUndo)
        self.log.pop()
        self.put_back(self.past.pop())

    def together(self, operations):
        if not isinstance(operations, (list, tuple)):
            raise Refused(InvalidOperation, operations)
        results = []
        for entry in operations:
            if not isinstance(entry, tuple) or not entry or not isinstance(entry[0], str):
                raise Refused(InvalidOperation, entry)
            if entry[0] not in OPERATIONS or len(entry) - 1 != OPERATIONS[entry[0]]:
                raise Refused(InvalidOperation, entry)
            results.append(getattr(self, "do_" + entry[0])(*entry[1:]))
        return results

    def check_node(self, node):
        if not is_number(node, 0, self.size - 1):
            raise Refused(InvalidNode, node)

    def check_edge(self, number):
        if not is_number(number, 0, len(self.edges) - 1):
            raise Refused(NoEdge, number)

    def check_amount(self, amount):
        if not is_number(amount):
            raise Refused(InvalidAmount, amount)

    def add_at(self, node, amount):
        for number, (tail, head) in enumerate(self.edges):
            if tail == node and head != node:
                self.gains[number] = self.residue(self.gains[number] + amount)
            if head == node and tail != node:
                self.gains[number] = self.residue(self.gains[number] - amount)

    def do_switch(self, node, amount):
        self.check_node(node)
        self.check_amount(amount)
        if node in self.fixed:
            raise Refused(Fixed, node)
        self.add_at(node, amount)

    def do_apply(self, potential):
        if not isinstance(potential, list) or len(potential) != self.size:
            raise Refused(InvalidPotential, potential)
        for value in potential:
            if not is_number(value) or self.modulus and not 0 <= value < self.modulus:
                raise Refused(InvalidPotential, potential)
        for node in range(self.size):
            if node in self.fixed and potential[node] != 0:
                raise Refused(Fixed, node)
        for node in range(self.size):
            self.add_at(node, potential[node])

    def do_set_gain(self, number, gain):
        self.check_edge(number)
        self.check_amount(gain)
        self.gains[number] = self.residue(gain)

    def do_add_edge(self, tail, head, gain):
        self.check_node(tail)
        self.check_node(head)
        self.check_amount(gain)
        if len(self.edges) == 60:
            raise Refused(TooMany, 61)
        self.edges.append((tail, head))
        self.gains.append(self.residue(gain))
        return len(self.edges) - 1

    def do_remove_edge(self, number):
        self.check_edge(number)
        tail, head = self.edges.pop(number)
        return tail, head, self.gains.pop(number)

    def do_add_node(self):
        if self.size == 30:
            raise Refused(TooMany, 31)
        self.size += 1
        return self.size - 1

    def do_fix(self, node):
        self.check_node(node)
        if node in self.fixed:
            raise Refused(Fixed, node)
        self.fixed = sorted(self.fixed + [node])

    def do_release(self, node):
        self.check_node(node)
        if node not in self.fixed:
            raise Refused(NotFixed, node)
        self.fixed.remove(node)

    def do_reduce(self, modulus):
        if not is_number(modulus, 2, 60) or self.modulus % modulus:
            raise Refused(InvalidModulus, modulus)
        self.modulus = modulus
        self.gains = [gain % modulus for gain in self.gains]


class PlainCrew:
    """A crew that carries out a potential, one unit at a time."""

    def __init__(self, web, before, potential, hands):
        self.web = web
        self.gains, self.rest, self.log = list(before), list(potential), []
        self.hands = copy.deepcopy(list(hands))

    def residue(self, number):
        return number % self.web.modulus() if self.web.modulus() else number

    def step(self, hand):
        """The node and the amount of the hand's next switch, None if it has nothing left to do."""
        waiting = [node for node in self.hands[hand] if self.rest[node] != 0]
        if not waiting:
            return None
        node, modulus = waiting[0], self.web.modulus()
        is_up = 2 * self.rest[node] <= modulus if modulus else self.rest[node] > 0
        amount = 1 if is_up else -1
        self.rest[node] = self.residue(self.rest[node] - amount)
        for number, (tail, head) in enumerate(self.web.edges()):
            change = amount * ((tail == node) - (head == node))
            self.gains[number] = self.residue(self.gains[number] + change)
        self.log.append((hand, node, amount))
        return node, amount

    def left(self):
        """The sum of the sizes of the rest."""
        modulus = self.web.modulus()
        return sum(min(value, modulus - value) if modulus else abs(value) for value in self.rest)
