"""A desk that keeps boards under names and executes lines."""

from turnedties.boards import Board
from turnedties.costs import cheapest
from turnedties.errors import InvalidCommand, NoBoard
from turnedties.texts import format_walk, format_web, number_of
from turnedties.webs import Web

MOST_LETTERS = 8
MOST_DIGITS = 12
ANY_COUNT = -1

# How many names, and then how many numbers, stand behind the first word of a line.
FORMS = {
    "board": (1, 2),
    "drop": (1, 0),
    "twin": (2, 0),
    "names": (0, 0),
    "edge": (1, 3),
    "node": (1, 0),
    "remove": (1, 1),
    "switch": (1, 2),
    "set": (1, 2),
    "fix": (1, 1),
    "release": (1, 1),
    "reduce": (1, 1),
    "undo": (1, 0),
    "gains": (1, 0),
    "fixed": (1, 0),
    "sums": (1, 0),
    "show": (1, 0),
    "balance": (1, 0),
    "to": (1, ANY_COUNT),
    "cost": (1, ANY_COUNT),
}

# The operations of a board for which a word stands.
OPERATIONS = {
    "edge": "add_edge",
    "node": "add_node",
    "remove": "remove_edge",
    "switch": "switch",
    "set": "set_gain",
    "fix": "fix",
    "release": "release",
    "reduce": "reduce",
}


class Desk:
    """Boards under their names."""

    def __init__(self):
        self.boards = {}

    def run(self, line):
        """Execute a line and return its answer as a text."""
        if not is_command(line):
            raise InvalidCommand(line)
        words = line.split(" ")
        command = words[0]
        if command == "names":
            return told_all(sorted(self.boards))
        name, others = words[1], words[2:]
        if command == "board":
            size, modulus = [number_of(word) for word in others]
            self.boards[name] = Board(Web(size, modulus=modulus), [])
            return "ok"
        if name not in self.boards:
            raise NoBoard(name)
        if command == "drop":
            del self.boards[name]
            return "ok"
        if command == "twin":
            self.boards[others[0]] = self.boards[name].twin()
            return "ok"
        return answer(self.boards[name], command, [number_of(word) for word in others])

    def __len__(self):
        return len(self.boards)


def is_command(line):
    """Whether the line is a text of one of the forms."""
    if not isinstance(line, str):
        return False
    words = line.split(" ")
    if words[0] not in FORMS:
        return False
    names, numbers = FORMS[words[0]]
    if len(words) < 1 + names or numbers not in (ANY_COUNT, len(words) - 1 - names):
        return False
    if not all([is_name(word) for word in words[1:1 + names]]):
        return False
    return all([is_short_number(word) for word in words[1 + names:]])


def is_name(word):
    """Whether the word is one to eight small letters."""
    if not 1 <= len(word) <= MOST_LETTERS:
        return False
    return word.isascii() and word.isalpha() and word.islower()


def is_short_number(word):
    """Whether the word writes an integer with few enough digits."""
    return len(word.removeprefix("-")) <= MOST_DIGITS and number_of(word) is not None


def answer(board, command, numbers):
    """The answer of a board to a command that is about it alone."""
    if command in OPERATIONS:
        return told_result(board.perform((OPERATIONS[command], *numbers)))
    if command == "undo":
        return told_result(board.undo())
    if command == "gains":
        return told_all(board.gains())
    if command == "fixed":
        return told_all(board.fixed())
    if command == "sums":
        return told_all(board.cycle_sums())
    if command == "show":
        return format_web(board.web(), board.gains()).replace("\n", "; ")
    if command == "balance":
        return told_found(board.balance())
    if command == "to":
        return told_found(board.transform(numbers))
    return told_cost(cheapest(board.web(), board.gains(), numbers, fixed=board.fixed()))


def told_all(values):
    """The values of a list or tuple, separated by one space."""
    if len(values) == 0:
        return "-"
    return " ".join([str(value) for value in values])


def told_result(result):
    """What an operation returned."""
    if result is None:
        return "ok"
    if isinstance(result, tuple):
        return told_all(result)
    return str(result)


def told_found(result):
    """A word and a potential or a walk."""
    word, found = result
    if word == "potential":
        return f"{word} {told_all(found)}"
    return f"{word} {format_walk(found)}"


def told_cost(result):
    """The cost of a cheapest potential, or the walk that excludes all of them."""
    if result[0] == "potential":
        return f"cost {result[2]}"
    return told_found(result)
