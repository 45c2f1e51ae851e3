"""Webs that are translated as point [4] (i) says: renumbered nodes, reordered and reversed edges."""

from tests.oracles import reduced
from turnedties.webs import Web


class Renamed:
    """A web with its nodes renumbered, its edges in another order, and some of them reversed."""

    def __init__(self, source, web, nodes=None):
        self.web = web
        self.nodes = nodes or source.sample(range(web.size()), web.size())
        self.order = source.sample(range(len(web)), len(web))
        self.ways = [source.choice([1, -1]) for number in self.order]
        edges = []
        for number, way in zip(self.order, self.ways):
            tail, head = [self.nodes[node] for node in web.edge(number)][::way]
            edges.append((tail, head))
        self.other = Web(web.size(), edges, modulus=web.modulus())

    def gains(self, gains):
        return [reduced(self.web, way * gains[number]) for number, way in zip(self.order, self.ways)]

    def target(self, target):
        return {
            at: reduced(self.web, way * target[number])
            for at, (number, way) in enumerate(zip(self.order, self.ways)) if number in target
        }

    def walk(self, walk):
        return [(self.order.index(number), way * self.ways[self.order.index(number)]) for number, way in walk]

    def by_node(self, values):
        found = [None] * len(values)
        for node, value in enumerate(values):
            found[self.nodes[node]] = value
        return found

    def some(self, nodes):
        return [self.nodes[node] for node in nodes]

    def result(self, result):
        if result[0] == "potential":
            return result[:1] + (self.by_node(result[1]),) + result[2:]
        return result[0], self.walk(result[1])

    def tree(self, count, tree):
        walk, branches = tree
        walk = self.walk(walk)
        if count > 0:
            numbers = sorted({number for number, way in tree[0]})
            by_number = {self.order.index(number): branch for number, branch in zip(numbers, branches)}
            branches = [self.tree(count - 1, by_number[number]) for number in sorted(by_number)]
        return walk, branches
