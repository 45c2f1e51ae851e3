"""A desk that keeps boards under names: point [30]."""

import inspect
import random
import time
import unittest

from tests.samples import check_raises, check_raises_count, no_integers
from turnedties.boards import Board
from turnedties.costs import cheapest
from turnedties.desk import Desk
from turnedties.errors import (
    Fixed, InvalidCommand, InvalidGains, InvalidModulus, InvalidNode, InvalidSize, NoBoard, NoEdge, NotFixed,
    NothingToUndo, TooMany,
)
from turnedties.texts import format_walk, format_web
from turnedties.webs import Web

WORDS = {
    "edge": "add_edge", "node": "add_node", "remove": "remove_edge", "switch": "switch", "set": "set_gain",
    "fix": "fix", "release": "release", "reduce": "reduce", "undo": "undo",
}
# How many names and numbers stand behind each word; the last two take any count of numbers.
FORMS = {
    "board": (1, 2), "drop": (1, 0), "twin": (2, 0), "names": (0, 0), "edge": (1, 3), "node": (1, 0), "remove": (1, 1),
    "switch": (1, 2), "set": (1, 2), "fix": (1, 1), "release": (1, 1), "reduce": (1, 1), "undo": (1, 0),
    "gains": (1, 0),
    "fixed": (1, 0), "sums": (1, 0), "show": (1, 0), "balance": (1, 0), "to": (1, None), "cost": (1, None),
}


def ran(*lines):
    """A desk that has executed these lines."""
    desk = Desk()
    for line in lines:
        desk.run(line)
    return desk


def small_desk():
    """A desk with one board of three nodes in a ring."""
    return ran("board a 3 5", "edge a 0 1 1", "edge a 1 2 2", "edge a 2 0 3", "fix a 1")


def asked(desk, name):
    """All that a desk tells of a board."""
    return [desk.run(f"{word} {name}") for word in ("show", "gains", "fixed", "sums", "balance")]


def state_of(desk):
    """All that a desk tells of itself."""
    names = desk.run("names")
    return names, len(desk), [asked(desk, name) for name in names.split(" ") if name != "-"]


def check_refused(case, desk, error, value, line):
    """Check that the line raises exactly this error with an equal value, and that nothing changes."""
    before = state_of(desk)
    check_raises_count(case, error, value, lambda: desk.run(line))
    case.assertEqual(before, state_of(desk))


def joined(values):
    """Numbers as a desk writes them."""
    return " ".join(str(value) for value in values) if values else "-"


def found_text(result):
    """A word and a potential or a walk as a desk writes them."""
    word, found = result[:2]
    return f"{word} {joined(found) if word == 'potential' else format_walk(found)}"


class Examples(unittest.TestCase):
    def test_answers(self):
        desk = Desk()
        lines = ["board a 2 5", "edge a 0 1 3", "to a 1", "names"]
        self.assertEqual(["ok", "0", "potential 0 2", "a"], [desk.run(line) for line in lines])

    def test_no_board(self):
        check_raises_count(self, NoBoard, "a", lambda: Desk().run("gains a"))


class Interface(unittest.TestCase):
    def test_arguments(self):
        self.assertEqual("()", str(inspect.signature(Desk)))
        self.assertEqual("(self, line)", str(inspect.signature(vars(Desk)["run"])))
        self.assertIn("__len__", vars(Desk))
        self.assertEqual("turnedties.desk", Desk.__module__)
        self.assertEqual("-", Desk().run(line="names"))


class Lines(unittest.TestCase):
    def check(self, desk, pairs):
        for line, expected in pairs:
            self.assertEqual(expected, desk.run(line), line)

    def test_boards_and_names(self):
        desk = Desk()
        self.assertEqual(0, len(desk))
        self.check(desk, [
            ("names", "-"), ("board b 2 0", "ok"), ("names", "b"), ("board a 30 60", "ok"),
            ("board zzzzzzzz 1 2", "ok"),
            ("names", "a b zzzzzzzz"), ("show a", "web 30 60"), ("drop b", "ok"), ("names", "a zzzzzzzz"),
            ("board a 4 7", "ok"), ("show a", "web 4 7"), ("drop a", "ok"), ("drop zzzzzzzz", "ok"), ("names", "-"),
        ])
        self.assertEqual(0, len(desk))
        self.check(desk, [(f"board {name} 2 0", "ok") for name in ("to", "names", "board", "ba", "b", "aa")])
        self.check(desk, [("names", "aa b ba board names to"), ("twin names twin", "ok"), ("drop to", "ok")])
        self.assertEqual(6, len(desk))

    def test_twin(self):
        desk = small_desk()
        self.check(desk, [("twin a b", "ok"), ("names", "a b"), ("show b", desk.run("show a"))])
        self.check(desk, [("switch b 0 1", "ok"), ("gains b", "2 2 2"), ("gains a", "1 2 3"), ("undo b", "ok")])
        self.check(desk, [("undo b", "ok"), ("fixed b", "-"), ("fixed a", "1"), ("undo b", "ok"), ("gains b", "1 2")])
        self.check(desk, [("twin b a", "ok"), ("gains a", "1 2"), ("names", "a b"), ("node a", "3")])
        self.check(desk, [("show b", "web 3 5; edge 0 1 1; edge 1 2 2"), ("undo a", "ok"), ("undo a", "ok")])
        self.check(desk, [("twin a a", "ok"), ("gains a", "1"), ("undo a", "ok"), ("gains a", "-"), ("names", "a b")])
        check_refused(self, desk, NoBoard, "c", "twin c a")
        self.assertEqual(2, len(desk))

    def test_operations(self):
        desk = Desk()
        self.check(desk, [
            ("board a 2 6", "ok"), ("node a", "2"), ("edge a 0 1 8", "0"), ("edge a 1 2 -1", "1"),
            ("edge a 2 2 3", "2"),
            ("gains a", "2 5 3"), ("show a", "web 3 6; edge 0 1 2; edge 1 2 5; edge 2 2 3"), ("switch a 1 2", "ok"),
            ("gains a", "0 1 3"), ("set a 2 -8", "ok"), ("gains a", "0 1 4"), ("fix a 2", "ok"), ("fix a 0", "ok"),
            ("fixed a", "0 2"), ("release a 2", "ok"), ("fixed a", "0"), ("reduce a 3", "ok"), ("gains a", "0 1 1"),
            ("remove a 1", "1 2 1"), ("gains a", "0 1"), ("sums a", "1"), ("undo a", "ok"), ("undo a", "ok"),
            ("show a", "web 3 6; edge 0 1 0; edge 1 2 1; edge 2 2 4"), ("remove a 2", "2 2 4"), ("sums a", "-"),
        ])

    def test_numbers_of_twelve_digits(self):
        great = "9" * 12
        desk = Desk()
        self.check(desk, [
            ("board a 3 0", "ok"), (f"edge a 0 1 {great}", "0"), (f"edge a 1 2 -{great}", "1"),
            (f"set a 1 {great}", "ok"),
            (f"switch a 1 -{great}", "ok"), ("gains a", f"{2 * int(great)} 0"), (f"switch a 0 {great}", "ok"),
            ("gains a", f"{3 * int(great)} 0"),
            (f"to a {great} -{great}", f"potential 0 {2 * int(great)} {3 * int(great)}"),
            (f"cost a {great} -{great}", f"cost {3 * int(great)}"), ("remove a 0", f"0 1 {3 * int(great)}"),
            ("undo a", "ok"), ("balance a", f"potential 0 {3 * int(great)} {3 * int(great)}"),
        ])
        for line, error, value in (
            (f"switch a {great} 1", InvalidNode, int(great)), (f"remove a -{great}", NoEdge, -int(great)),
            (f"board a {great} 0", InvalidSize, int(great)), (f"board a 3 -{great}", InvalidModulus, -int(great)),
        ):
            check_refused(self, desk, error, value, line)

    def test_balance_to_and_cost(self):
        desk = small_desk()
        self.check(desk, [
            ("to a 3 3 0", "potential 2 0 4"), ("cost a 3 3 0", "cost 3"), ("to a 1 2 3", "potential 0 0 0"),
            ("cost a 1 2 3", "cost 0"), ("release a 1", "ok"), ("to a 3 3 0", "potential 0 3 2"),
            ("cost a 3 3 0", "cost 3"),
            ("fix a 0", "ok"), ("cost a 3 3 0", "cost 4"), ("to a 0 0 0", "cycle 2+ 0+ 1+"),
            ("balance a", "cycle 2+ 0+ 1+"),
            ("cost a 0 0 0", "cycle 2+ 0+ 1+"), ("fix a 2", "ok"), ("to a 3 3 0", "fixed 0+ 1+"),
            ("cost a 3 3 0", "fixed 0+ 1+"), ("set a 2 2", "ok"), ("balance a", "fixed 0+ 1+"), ("release a 2", "ok"),
            ("balance a", "potential 0 1 3"),
        ])

    def test_no_edges(self):
        desk = ran("board a 3 5")
        self.check(desk, [
            ("to a", "potential 0 0 0"), ("cost a", "cost 0"), ("balance a", "potential 0 0 0"), ("gains a", "-"),
            ("sums a", "-"), ("fixed a", "-"), ("show a", "web 3 5"),
        ])
        check_refused(self, desk, InvalidGains, [0], "to a 0")
        check_refused(self, desk, InvalidGains, [0], "cost a 0")

    def test_two_desks_are_independent(self):
        one, two = small_desk(), Desk()
        self.assertEqual([1, 0], [len(one), len(two)])
        self.check(two, [("names", "-"), ("board a 1 2", "ok"), ("show a", "web 1 2")])
        self.assertEqual("web 3 5; edge 0 1 1; edge 1 2 2; edge 2 0 3", one.run("show a"))
        self.check(one, [("drop a", "ok"), ("names", "-")])
        self.check(two, [("names", "a")])


class AgainstBoards(unittest.TestCase):
    def test_random_lines(self):
        source = random.Random(301)
        done = {}
        for at in range(40):
            size, modulus = source.randint(1, 6), source.choice([0, 2, 5, 12, 60])
            desk, boards = ran(f"board a {size} {modulus}"), {"a": Board(Web(size, modulus=modulus), [])}
            for step in range(80):
                self.step(source, desk, boards, done)
                self.assertEqual(joined(sorted(boards)), desk.run("names"))
                self.assertEqual(len(boards), len(desk))
        self.assertEqual(sorted(set(FORMS) - {"names"}), sorted(done))
        self.assertGreater(min(done.values()), 10)

    def step(self, source, desk, boards, done):
        name, other = source.choice(sorted(boards)), source.choice("abc")
        rare = ["board", "drop", "twin"]
        word = source.choice(rare if source.random() < 0.05 else sorted(set(FORMS) - {"names", *rare}))
        if word == "drop" and len(boards) == 1:
            return
        if word in rare:
            rest = {"twin": other, "drop": "", "board": "3 6"}[word]
            self.assertEqual("ok", desk.run(f"{word} {name} {rest}".strip()))
            if word == "twin":
                boards[other] = boards[name].twin()
            elif word == "drop":
                del boards[name]
            else:
                boards[name] = Board(Web(3, modulus=6), [])
            done[word] = done.get(word, 0) + 1
            return
        board = boards[name]
        numbers = self.numbers(source, board, word)
        line = " ".join([word, name, *map(str, numbers)])
        try:
            expected = self.expected(board, word, numbers)
        except Exception as error:
            with self.assertRaises(type(error)) as caught:
                desk.run(line)
            self.assertIs(type(error), type(caught.exception))
            self.assertEqual(getattr(error, "value", None), getattr(caught.exception, "value", None))
        else:
            done[word] = done.get(word, 0) + 1
            self.assertEqual(expected, desk.run(line))
        self.assertEqual(format_web(board.web(), board.gains()).replace("\n", "; "), desk.run(f"show {name}"))
        self.assertEqual(joined(board.fixed()), desk.run(f"fixed {name}"))

    def numbers(self, source, board, word):
        """Numbers for a line, most of them valid."""
        web = board.web()
        if word in ("to", "cost"):
            low, high = (-20, 20) if web.modulus() == 0 else (0, web.modulus() - (source.random() < 0.9))
            gains = [source.randint(low, high) for edge in web.edges()]
            return gains if source.random() < 0.6 else board.gains() + [0] * (source.random() < 0.2)
        node, edge = source.randint(0, web.size() - (source.random() < 0.9)), source.randint(0, len(web))
        amount = source.randint(-10 ** 12 + 1, 10 ** 12 - 1)
        return {
            "edge": [node, source.randrange(web.size()), amount], "remove": [edge], "switch": [node, amount],
            "set": [edge, amount], "fix": [node], "release": [node],
            "reduce": [source.choice([2, 3, 5, 6, web.modulus(), web.modulus(), 7, 1, 61])],
        }.get(word, [])

    def expected(self, board, word, numbers):
        """What the desk should answer, by the board beside it."""
        if word in WORDS:
            result = getattr(board, WORDS[word])(*numbers)
            return "ok" if result is None else joined(result) if isinstance(result, tuple) else str(result)
        if word in ("gains", "fixed", "sums"):
            return joined({"gains": board.gains, "fixed": board.fixed, "sums": board.cycle_sums}[word]())
        if word == "show":
            return format_web(board.web(), board.gains()).replace("\n", "; ")
        if word == "cost":
            result = cheapest(board.web(), board.gains(), numbers, fixed=board.fixed())
            return f"cost {result[2]}" if result[0] == "potential" else found_text(result)
        return found_text(board.balance() if word == "balance" else board.transform(numbers))

    def test_boards_at_their_bounds(self):
        source = random.Random(302)
        for modulus in (0, 2, 60):
            desk = ran(f"board a 30 {modulus}")
            for number in range(60):
                line = f"edge a {source.randrange(30)} {source.randrange(30)} {source.randrange(10 ** 12)}"
                self.assertEqual(str(number), desk.run(line))
            check_refused(self, desk, TooMany, 61, "edge a 0 0 0")
            check_refused(self, desk, TooMany, 31, "node a")
            started = time.process_time()
            gains = desk.run("gains a")
            self.assertEqual("cost 0", desk.run(f"cost a {gains}"))
            self.assertEqual("potential " + " ".join("0" * 30), desk.run(f"to a {gains}"))
            self.assertEqual(60, desk.run("show a").count("; "))
            self.assertLess(time.process_time() - started, 2)
            self.assertEqual("ok", desk.run("twin a b"))
            for number in range(60):
                self.assertEqual("ok", desk.run("undo b"))
            self.assertEqual([f"web 30 {modulus}", gains], [desk.run("show b"), desk.run("gains a")])


def no_commands():
    """Lines that are none of the forms."""
    lines = ["", " ", "  ", "a", "Names", "NAMES", "name", "names a", "names names", "names ", " names", "names\n"]
    lines += ["\nnames", "names\t", "names;", "gains a; gains a", "gains a\ngains a", "gains\na", "gains a\n"]
    lines += ["gains\ta", "gains,a", "- a", "ok", "sum a", "open a 2 5", "run a", "log a", "apply a 0 0", "together a"]
    lines += ["transform a 1", "web a"]
    for word, (names, numbers) in FORMS.items():
        good = [word] + ["a", "b"][:names] + ["1", "2", "1"][:numbers or 0]
        line = " ".join(good)
        lines += [line + " ", " " + line, line + "\n", "\n" + line, line.upper(), line.capitalize()]
        lines += [line + "  1", line + " x"]
        lines += [line.replace(" ", "  ", 1) if " " in line else "names  ", line + " +1", line + " -0", line + " 01"]
        if len(good) > 1:
            lines.append(" ".join(good[:-1]))
            lines.append(line.replace(" ", "\n", 1))
        if numbers is not None:
            lines += [line + " 1", line + " 0 0"]
        for at in range(1, 1 + names):
            for name in (
                "", "A", "aB", "a1", "1", "abcdefghi", "a-b", "a_b", "-", "a.", "a,", "a\n", "0", "-1", "aaaaaaaaaaaa",
                "a\tb",
            ):
                lines.append(" ".join(good[:at] + [name] + good[at + 1:]))
        places = range(1 + names, len(good)) if numbers is not None else [2, 3]
        for at in places:
            for number in (
                "", "-", "-0", "00", "01", "-01", "+1", "1.0", "a", "1a", "1,", "0x1", "1_0", "1e1", "1" + "0" * 12,
                "9" * 13, "-" + "1" * 13, "0" * 13, "--1", "1-", "1" * 1000, "1\n", "one", "(1)",
            ):
                filled = good + ["1"] * (numbers is None)
                lines.append(" ".join(filled[:at] + [number] + filled[at + 1:]))
    return lines


class Refused(unittest.TestCase):
    def test_lines_that_are_none_of_the_forms(self):
        empty, desk = Desk(), small_desk()
        before = state_of(desk)
        for line in no_commands():
            for one in (empty, desk):
                check_raises(self, InvalidCommand, line, lambda: one.run(line))
        self.assertEqual([before, 0], [state_of(desk), len(empty)])

    def test_no_texts(self):
        for desk in (Desk(), small_desk()):
            for line in no_lines():
                check_raises(self, InvalidCommand, line, lambda: desk.run(line))

    def test_every_form_is_known(self):
        desk = Desk()
        for word, (names, numbers) in FORMS.items():
            if word not in ("board", "names"):
                for count in [numbers] if numbers is not None else [0, 1, 60, 200]:
                    line = " ".join([word, "abcdefgh", "b"][:1 + names] + ["-123456789012"] * count)
                    check_raises_count(self, NoBoard, "abcdefgh", lambda: desk.run(line))
        self.assertEqual([0, "-"], [len(desk), desk.run("names")])

    def test_a_name_that_is_not_kept_comes_ahead_of_what_the_board_raises(self):
        desk = small_desk()
        for line in (
            "drop b", "twin b c", "twin b a", "edge b 9 9 9", "node b", "remove b 9", "switch b 9 9", "set b 9 9",
            "fix b 9",
            "release b 9", "reduce b 9", "undo b", "gains b", "fixed b", "sums b", "show b", "balance b", "to b",
            "cost b 9",
        ):
            check_refused(self, desk, NoBoard, "b", line)
        desk.run("drop a")
        check_refused(self, desk, NoBoard, "a", "gains a")

    def test_what_the_other_sections_raise(self):
        desk = small_desk()
        for line, error, value in (
            ("board a 0 5", InvalidSize, 0), ("board a 31 1", InvalidSize, 31), ("board a -1 5", InvalidSize, -1),
            ("board a 3 1", InvalidModulus, 1), ("board a 3 61", InvalidModulus, 61),
            ("board b 3 -5", InvalidModulus, -5),
            ("edge a 3 -1 0", InvalidNode, 3), ("edge a 0 -1 0", InvalidNode, -1), ("remove a 3", NoEdge, 3),
            ("remove a -1", NoEdge, -1), ("switch a 3 0", InvalidNode, 3), ("switch a 1 0", Fixed, 1),
            ("set a 3 0", NoEdge, 3),
            ("fix a 3", InvalidNode, 3), ("fix a 1", Fixed, 1), ("release a 3", InvalidNode, 3),
            ("release a 0", NotFixed, 0),
            ("reduce a 2", InvalidModulus, 2), ("reduce a 0", InvalidModulus, 0), ("reduce a 10", InvalidModulus, 10),
        ):
            check_refused(self, desk, error, value, line)
        for line in ("to a", "to a 1 2", "to a 1 2 3 4", "to a 1 2 5", "to a 1 -1 3", "to a 999999999999 0 0"):
            numbers = [int(word) for word in line.split(" ")[2:]]
            check_refused(self, desk, InvalidGains, numbers, line)
            check_refused(self, desk, InvalidGains, numbers, line.replace("to", "cost"))

    def test_nothing_to_undo(self):
        desk = ran("board a 2 5")
        before = state_of(desk)
        with self.assertRaises(NothingToUndo) as caught:
            desk.run("undo a")
        self.assertIs(NothingToUndo, type(caught.exception))
        self.assertEqual(before, state_of(desk))
        desk.run("node a")
        self.assertEqual("ok", desk.run("undo a"))
        self.assertRaises(NothingToUndo, desk.run, "undo a")

    def test_a_board_that_is_refused_does_not_replace_one(self):
        desk = small_desk()
        check_refused(self, desk, InvalidSize, 0, "board a 0 0")
        check_refused(self, desk, InvalidModulus, 1, "board a 1 1")
        check_refused(self, desk, InvalidModulus, 1, "board b 1 1")
        self.assertEqual("ok", desk.run("undo a"))


def no_lines():
    """Values that are no texts."""
    return [thing for thing in no_integers() if not isinstance(thing, str)] + [0, 1, b"names", ["names"], ("names",)]


if __name__ == "__main__":
    unittest.main()
