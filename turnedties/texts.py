"""Webs with their gains, and walks, as texts."""

from turnedties.arguments import check_gains
from turnedties.checks import is_between, is_integer
from turnedties.errors import InvalidText, InvalidWalk
from turnedties.residues import is_residue
from turnedties.webs import MOST_EDGES, MOST_NODES, Web, is_edge, is_modulus

SIGNS = {1: "+", -1: "-"}
WAYS = {"+": 1, "-": -1}


def format_web(web, gains):
    """A row for the web, and a row for each edge with its gain, separated by line feeds."""
    check_gains(web, gains)
    rows = [f"web {web.size()} {web.modulus()}"]
    for (tail, head), gain in zip(web.edges(), gains):
        rows.append(f"edge {tail} {head} {gain}")
    return "\n".join(rows)


def parse_web(text):
    """The web and the gains of a text, as a tuple."""
    if not isinstance(text, str):
        raise InvalidText(0)
    rows = text.split("\n")
    web = web_of_row(rows[0])
    if web is None:
        raise InvalidText(0)
    edges, gains = [], []
    for at in range(1, len(rows)):
        found = edge_of_row(web, rows[at])
        if found is None or at > MOST_EDGES:
            raise InvalidText(at)
        edges.append(found[:2])
        gains.append(found[2])
    return Web(web.size(), edges, modulus=web.modulus()), gains


def number_of(word):
    """The integer that the word writes, None if it writes none."""
    digits = word.removeprefix("-")
    if not digits.isascii() or not digits.isdigit():
        return None
    if digits.startswith("0") and word != "0":
        return None
    return int(word)


def numbers_of_row(row, name, count):
    """The integers of a row that has this name and that many words behind it, None if it is no such row."""
    words = row.split(" ")
    numbers = [number_of(word) for word in words[1:]]
    if words[0] != name or len(numbers) != count or None in numbers:
        return None
    return numbers


def web_of_row(row):
    """The web without edges that a row tells of, None if it tells of none."""
    numbers = numbers_of_row(row, "web", 2)
    if numbers is None:
        return None
    size, modulus = numbers
    if not is_between(size, 1, MOST_NODES) or not is_modulus(modulus):
        return None
    return Web(size, modulus=modulus)


def edge_of_row(web, row):
    """The tail, the head and the gain of an edge that a row tells of, None if it tells of none."""
    numbers = numbers_of_row(row, "edge", 3)
    if numbers is None:
        return None
    tail, head, gain = numbers
    if not is_edge(web.size(), (tail, head)) or not is_residue(web, gain):
        return None
    return tail, head, gain


def format_walk(walk):
    """The steps of a list of steps, each as the edge number and a sign."""
    if not isinstance(walk, list) or not all([is_any_step(entry) for entry in walk]):
        raise InvalidWalk(walk)
    return " ".join([f"{number}{SIGNS[way]}" for number, way in walk])


def is_any_step(thing):
    """Whether thing is a step of some web, of any number of edges."""
    if not isinstance(thing, tuple) or len(thing) != 2:
        return False
    number, way = thing
    return is_integer(number) and number >= 0 and is_integer(way) and way in (1, -1)


def parse_walk(text):
    """The list of steps of a text."""
    if not isinstance(text, str):
        raise InvalidText(0)
    if text == "":
        return []
    walk = []
    for at, word in enumerate(text.split(" ")):
        number = number_of(word[:-1])
        if word[-1:] not in WAYS or number is None or number < 0:
            raise InvalidText(at)
        walk.append((number, WAYS[word[-1:]]))
    return walk
