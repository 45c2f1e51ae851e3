"""Boards: a web, gains and fixed nodes that change by operations, which can be undone."""

from turnedties.arguments import check_fixed, check_gains
from turnedties.equivalence import cycle_sums, transform
from turnedties.errors import InvalidOperation, NothingToUndo
from turnedties.operations import is_operation, performed
from turnedties.zeros import balance


class Board:
    """A web, gains and fixed nodes, with the operations that led to them."""

    def __init__(self, web, gains, *, fixed=()):
        check_gains(web, gains)
        check_fixed(web, fixed)
        self.state = (web, list(gains), sorted(fixed))
        # For each operation that is not undone the state before it, and its entry in the log.
        self.history = []

    def switch(self, node, amount):
        """Switch a node that is not fixed."""
        return self.perform(("switch", node, amount))

    def apply(self, potential):
        """Switch all nodes by a potential that is 0 at the fixed nodes."""
        return self.perform(("apply", potential))

    def set_gain(self, number, gain):
        """Give an edge the residue of an integer as its gain."""
        return self.perform(("set_gain", number, gain))

    def add_edge(self, tail, head, gain=0):
        """Append an edge and return its number."""
        return self.perform(("add_edge", tail, head, gain))

    def remove_edge(self, number):
        """Remove an edge and return a tuple of its tail, head and gain."""
        return self.perform(("remove_edge", number))

    def add_node(self):
        """Append a node without edges and return it."""
        return self.perform(("add_node",))

    def fix(self, node):
        """Fix a node that is not fixed."""
        return self.perform(("fix", node))

    def release(self, node):
        """Release a node that is fixed."""
        return self.perform(("release", node))

    def reduce(self, modulus):
        """Replace the modulus by one that divides it, and the gains by their residues."""
        return self.perform(("reduce", modulus))

    def perform(self, operation):
        """Do one operation, a tuple of its name and its arguments, and return its result."""
        state, result = performed(self.state, operation)
        self.keep(state, operation)
        return result

    def together(self, operations):
        """Do all operations in order as a single one and return their results, or do nothing."""
        if not isinstance(operations, (list, tuple)):
            raise InvalidOperation(operations)
        state, results = self.state, []
        for entry in operations:
            if not is_operation(entry):
                raise InvalidOperation(entry)
            state, result = performed(state, entry)
            results.append(result)
        self.keep(state, ("together", list(operations)))
        return results

    def keep(self, state, entry):
        """Go on to the next state, with a new entry in the log."""
        self.history.append((self.state, copied(entry)))
        self.state = state

    def undo(self):
        """Undo the last operation that is not undone."""
        if len(self.history) == 0:
            raise NothingToUndo()
        self.state = self.history.pop()[0]

    def web(self):
        """The present web."""
        return self.state[0]

    def gains(self):
        """The present gains."""
        return list(self.state[1])

    def fixed(self):
        """The nodes that are fixed at present, ascending."""
        return list(self.state[2])

    def log(self):
        """The operations that are not undone, as tuples of the name and the arguments."""
        return [copied(entry) for before, entry in self.history]

    def cycle_sums(self):
        """The sums of the cycles of the web."""
        return cycle_sums(self.state[0], self.state[1])

    def balance(self):
        """A potential that makes all gains 0, or a walk that excludes all of them."""
        web, gains, fixed = self.state
        return balance(web, gains, fixed=fixed)

    def transform(self, after):
        """A potential that leads to the gains after, or a walk that excludes all of them."""
        web, gains, fixed = self.state
        return transform(web, gains, after, fixed=fixed)

    def twin(self):
        """An independent board with the same state, log and undo history."""
        web, gains, fixed = self.state
        other = Board(web, gains, fixed=fixed)
        other.history = list(self.history)
        return other

    def __len__(self):
        return len(self.history)

    def __eq__(self, other):
        return isinstance(other, Board) and self.state == other.state


def copied(entry):
    """The entry of a log with copies of all lists in it."""
    if isinstance(entry, list):
        return [copied(part) for part in entry]
    if isinstance(entry, tuple):
        return tuple([copied(part) for part in entry])
    return entry
