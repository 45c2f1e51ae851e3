"""Webs, their forests, and walks in them."""

from turnedties.checks import is_between, is_integer
from turnedties.errors import InvalidEdge, InvalidModulus, InvalidNode, InvalidSize, InvalidWalk, NoEdge, TooMany

MOST_NODES = 30
MOST_EDGES = 60
LEAST_MODULUS = 2
MOST_MODULUS = 60


class Web:
    """A directed graph whose edges are numbered, and the modulus of their gains."""

    def __init__(self, size, edges=(), *, modulus=0):
        if not is_between(size, 1, MOST_NODES):
            raise InvalidSize(size)
        check_edges(size, edges)
        if not is_modulus(modulus):
            raise InvalidModulus(modulus)
        self.node_count = size
        self.edge_pairs = [(tail, head) for tail, head in edges]
        self.gain_modulus = modulus
        # A web never changes, so its forest is worked out only once.
        self.forest_numbers, self.first_nodes = grown_forest(size, self.edge_pairs)
        self.forest_ties = ties_of(size, self.edge_pairs, self.forest_numbers)

    def size(self):
        """The number of nodes."""
        return self.node_count

    def modulus(self):
        """The modulus of the gains, 0 if they are integers."""
        return self.gain_modulus

    def edges(self):
        """The edges, as a list of tuples."""
        return list(self.edge_pairs)

    def edge(self, number):
        """The edge with that number, as a tuple."""
        if not is_between(number, 0, len(self.edge_pairs) - 1):
            raise NoEdge(number)
        return self.edge_pairs[number]

    def components(self):
        """The components as ascending lists, ordered by their first nodes."""
        nodes = list(range(self.node_count))
        firsts = [node for node in nodes if self.first_nodes[node] == node]
        return [[node for node in nodes if self.first_nodes[node] == first] for first in firsts]

    def forest(self):
        """The numbers of the forest's edges, ascending."""
        return list(self.forest_numbers)

    def path(self, start, finish):
        """The steps along the forest from start to finish, None if there are none."""
        for node in (start, finish):
            if not is_between(node, 0, self.node_count - 1):
                raise InvalidNode(node)
        return way_along(self.forest_ties, start, finish)

    def cycles(self):
        """The cycles of the edges that are not in the forest, in their order."""
        walks = []
        for number, (tail, head) in enumerate(self.edge_pairs):
            if number not in self.forest_numbers:
                walks.append([(number, 1)] + way_along(self.forest_ties, head, tail))
        return walks

    def __len__(self):
        return len(self.edge_pairs)

    def __eq__(self, other):
        return (
            isinstance(other, Web)
            and self.node_count == other.node_count
            and self.edge_pairs == other.edge_pairs
            and self.gain_modulus == other.gain_modulus
        )

    def __repr__(self):
        return f"Web({self.node_count}, {self.edge_pairs}, modulus={self.gain_modulus})"


def is_modulus(thing):
    """Whether thing can be the modulus of a web."""
    return is_integer(thing) and (thing == 0 or LEAST_MODULUS <= thing <= MOST_MODULUS)


def is_edge(size, thing):
    """Whether thing is a tuple of two of the nodes 0 to size - 1."""
    if not isinstance(thing, tuple) or len(thing) != 2:
        return False
    return all([is_between(node, 0, size - 1) for node in thing])


def check_edges(size, edges):
    """Raise what is wrong with the edges of a web of that size."""
    if not isinstance(edges, (list, tuple)):
        raise InvalidEdge(edges)
    for entry in edges:
        if not is_edge(size, entry):
            raise InvalidEdge(entry)
    if len(edges) > MOST_EDGES:
        raise TooMany(len(edges))


def grown_forest(size, pairs):
    """The forest's edge numbers, and for each node the first node of its component."""
    numbers = []
    firsts = list(range(size))
    for number, (tail, head) in enumerate(pairs):
        if firsts[tail] != firsts[head]:
            numbers.append(number)
            low = min(firsts[tail], firsts[head])
            high = max(firsts[tail], firsts[head])
            firsts = [low if first == high else first for first in firsts]
    return numbers, firsts


def ties_of(size, pairs, numbers):
    """For each node the steps from it over the numbered edges, each with the node it goes to."""
    ties = [[] for node in range(size)]
    for number in numbers:
        tail, head = pairs[number]
        ties[tail].append(((number, 1), head))
        ties[head].append(((number, -1), tail))
    return ties


def ways_from(ties, start):
    """The steps from start to each node that the ties connect with it, as few as possible."""
    ways = {start: []}
    waiting = [start]
    while waiting:
        node = waiting.pop(0)
        for step, other in ties[node]:
            if other not in ways:
                ways[other] = ways[node] + [step]
                waiting.append(other)
    return ways


def way_along(ties, start, finish):
    """The steps from start to finish, None if there are none; the ties contain no cycle."""
    return ways_from(ties, start).get(finish)


def is_step(web, thing):
    """Whether thing is a step of the web."""
    if not isinstance(thing, tuple) or len(thing) != 2:
        return False
    number, way = thing
    return is_between(number, 0, len(web) - 1) and is_integer(way) and way in (1, -1)


def step_ends(web, step):
    """The node where the step begins and the node where it ends."""
    number, way = step
    tail, head = web.edge(number)
    if way == 1:
        return tail, head
    return head, tail


def is_walk(web, thing):
    """Whether thing is a walk of the web."""
    if not isinstance(thing, list) or len(thing) == 0:
        return False
    if not all([is_step(web, entry) for entry in thing]):
        return False
    return are_linked([step_ends(web, step) for step in thing])


def are_linked(ends):
    """Whether each step, given by the nodes where it begins and ends, begins where the one before ends."""
    return all([before[1] == after[0] for before, after in zip(ends, ends[1:])])


def is_closed(web, thing):
    """Whether thing is a closed walk of the web."""
    if not is_walk(web, thing):
        return False
    start, finish = ends_of(web, thing)
    return start == finish


def ends_of(web, walk):
    """The node where the walk begins and the node where it ends."""
    if not is_walk(web, walk):
        raise InvalidWalk(walk)
    return step_ends(web, walk[0])[0], step_ends(web, walk[-1])[1]
