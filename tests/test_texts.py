"""Webs and walks as texts: point [29]."""

import inspect
import random
import time
import unittest

from tests.samples import (
    Agreeing, Hostile, check_each_value, check_raises, check_raises_count, looped_list, no_integers, no_residues,
    no_rows, random_gains, random_walk, random_webs,
)
from turnedties.errors import InvalidGains, InvalidText, InvalidWalk
from turnedties.texts import format_walk, format_web, parse_walk, parse_web
from turnedties.webs import Web

# No number is written like these.
NO_NUMBERS = [
    "", "-", "-0", "+1", "+", "00", "01", "-01", "-00", "--1", "1-", "1+", "1.0", "1e1", "0x1", "1_0", "a", "one", "1,",
    "(1)", "None", "True", "1\t", "\t1", "'1'", "1/1", "-+1", "+-1", "- 1",
]


def no_texts():
    """Values that are no texts."""
    return [thing for thing in no_integers() if not isinstance(thing, str)] + [0, 1, ["web 1 0"], b"web 1 0", ("0+",)]


class Examples(unittest.TestCase):
    def test_all(self):
        text = format_web(Web(2, [(0, 1), (1, 1)], modulus=5), [3, 0])
        self.assertEqual("web 2 5\nedge 0 1 3\nedge 1 1 0", text)
        self.assertEqual([3, 0], parse_web(text)[1])
        self.assertEqual("2+ 0-", format_walk([(2, 1), (0, -1)]))
        self.assertEqual([(2, 1), (0, -1)], parse_walk("2+ 0-"))

    def test_invalid_text(self):
        check_raises_count(self, InvalidText, 1, lambda: parse_web("web 2 5\nedge 0 1 5"))


class Interface(unittest.TestCase):
    def test_arguments(self):
        for function, arguments in (
            (format_web, "(web, gains)"), (parse_web, "(text)"), (format_walk, "(walk)"), (parse_walk, "(text)"),
        ):
            self.assertEqual(arguments, str(inspect.signature(function)))
            self.assertEqual("turnedties.texts", function.__module__)


class FormatWeb(unittest.TestCase):
    def test_rows(self):
        self.assertEqual("web 1 0", format_web(Web(1), []))
        self.assertEqual("web 30 60", format_web(Web(30, modulus=60), []))
        web = Web(12, [(11, 0), (10, 10)])
        self.assertEqual("web 12 0\nedge 11 0 -10\nedge 10 10 0", format_web(web, [-10, 0]))

    def test_arguments_stay(self):
        gains = [1, 2]
        format_web(Web(2, [(0, 1), (0, 1)]), gains)
        self.assertEqual([1, 2], gains)

    def test_wrong_gains(self):
        for modulus in (0, 5):
            good = {"web": Web(2, [(0, 1), (0, 1)], modulus=modulus), "gains": [1, 2]}
            check_each_value(self, format_web, good, "gains", InvalidGains, no_rows([1, 2], no_residues(modulus)))


class ParsedBack(unittest.TestCase):
    def check(self, web, gains):
        text = format_web(web, gains)
        result = parse_web(text)
        self.assertEqual([tuple, Web, list], [type(result), type(result[0]), type(result[1])])
        self.assertEqual((web, gains), result)
        self.assertEqual(text, format_web(*result))

    def test_random_webs(self):
        source = random.Random(291)
        for web in random_webs(200, 291):
            self.check(web, random_gains(source, web))

    def test_all_sizes_and_moduli(self):
        for size in range(1, 31):
            self.check(Web(size, [(size - 1, 0)]), [-size])
            self.check(Web(size), [])
        for modulus in range(2, 61):
            self.check(Web(2, [(0, 1), (1, 0)], modulus=modulus), [modulus - 1, 0])
            self.check(Web(3, modulus=modulus), [])

    def test_sixty_edges_and_gains_of_many_digits(self):
        source = random.Random(292)
        for digits in (12, 60, 999):
            edges = [(source.randrange(30), source.randrange(30)) for number in range(60)]
            gains = [source.choice([-1, 1]) * source.randrange(10 ** (digits - 1), 10 ** digits) for edge in edges]
            self.check(Web(30, edges), gains)
        self.check(Web(30, [(29, 28)] * 60, modulus=60), [59] * 60)

    def test_results_are_new(self):
        text = "web 2 5\nedge 0 1 3"
        parse_web(text)[1].append(7)
        self.assertEqual((Web(2, [(0, 1)], modulus=5), [3]), parse_web(text))


class ParseWeb(unittest.TestCase):
    def refused(self, text, number):
        check_raises_count(self, InvalidText, number, lambda: parse_web(text))

    def test_no_texts(self):
        for thing in no_texts():
            self.refused(thing, 0)

    def test_the_first_row(self):
        for row in (
            "", " ", "\n", "web", "web ", "web 2", "web 2 ", "web 2 5 ", " web 2 5", "web  2 5", "web 2  5",
            "web 2 5 0",
            "Web 2 5", "WEB 2 5", "webs 2 5", "we 2 5", "edge 0 0 0", "2 5", "web,2,5", "web\t2\t5", "web 2 5\t",
            "web2 5",
            "web 0 5", "web -1 5", "web 31 5", "web 2 1", "web 2 -1", "web 2 61", "web 2 -5", f"web {10 ** 60} 5",
            f"web 2 {10 ** 60}", "web 2 5 edge 0 1 3", "size 2 5", "web two 5", "web(2, 5)",
        ):
            self.refused(row, 0)
            self.refused(row + "\nedge 0 1 3", 0)
        for word in NO_NUMBERS:
            self.refused(f"web {word} 5", 0)
            self.refused(f"web 2 {word}", 0)
        for size in range(1, 31):
            self.assertEqual((Web(size), []), parse_web(f"web {size} 0"))

    def test_rows_of_edges(self):
        good = "edge 0 1 3"
        for row in (
            "", " ", "edge", "edge 0", "edge 0 1", "edge 0 1 ", "edge 0 1 3 ", " edge 0 1 3", "edge  0 1 3",
            "edge 0  1 3",
            "edge 0 1  3", "edge 0 1 3 4", "Edge 0 1 3", "edges 0 1 3", "web 2 5", "0 1 3", "edge 0 2 3", "edge 2 0 3",
            "edge -1 1 3", "edge 0 -1 3", "edge 0 1 5", "edge 0 1 -1", f"edge 0 1 {10 ** 60}", f"edge {10 ** 60} 1 3",
            "edge 0 30 3", "edge\t0\t1\t3", "edge 0 1 3;", "edge 0,1,3", "node 0 1 3", "edge (0, 1) 3", "edge 0 1 3\t",
        ):
            for before in range(3):
                rows = ["web 2 5"] + [good] * before + [row]
                self.refused("\n".join(rows), before + 1)
                self.refused("\n".join(rows + [good, "", row]), before + 1)
        for word in NO_NUMBERS:
            for row in (f"edge {word} 1 3", f"edge 0 {word} 3", f"edge 0 1 {word}"):
                self.refused(f"web 2 5\n{good}\n{row}\n{good}", 2)
        self.refused("web 2 0\nedge 0 1 -0", 1)
        self.assertEqual((Web(2, [(0, 1)]), [-10]), parse_web("web 2 0\nedge 0 1 -10"))

    def test_residues_of_every_modulus(self):
        for modulus in range(2, 61):
            for gain in (0, 1, modulus - 1):
                self.assertEqual([gain], parse_web(f"web 1 {modulus}\nedge 0 0 {gain}")[1])
            for gain in (-1, modulus, modulus + 1, -modulus):
                self.refused(f"web 1 {modulus}\nedge 0 0 {gain}", 1)

    def test_empty_rows(self):
        self.refused("web 2 5\n", 1)
        self.refused("web 2 5\n\n", 1)
        self.refused("\nweb 2 5", 0)
        self.refused("web 2 5\nedge 0 1 3\n", 2)
        self.refused("web 2 5\n\nedge 0 1 3", 1)
        self.refused("web 2 5\nedge 0 1 3\n\n\n", 2)

    def test_the_row_of_the_61st_edge(self):
        rows = ["web 2 5"] + ["edge 0 1 3"] * 60
        self.assertEqual((Web(2, [(0, 1)] * 60, modulus=5), [3] * 60), parse_web("\n".join(rows)))
        for more in (["edge 0 1 3"], ["edge 0 1 3"] * 30, [""], ["edge 0 1 5"]):
            self.refused("\n".join(rows + more), 61)
        self.refused("\n".join(rows[:30] + ["edge 0 1 5"] + rows[30:] + rows), 30)

    def test_long_texts(self):
        started = time.process_time()
        self.refused(" " * 4000, 0)
        self.refused("\n" * 4000, 0)
        self.refused("web 2 0\nedge 0 1 " + "0" * 3980, 1)
        self.refused("web 2 5\nedge 0 1 " + "9" * 3980, 1)
        self.refused("web " + "9" * 3990 + " 0", 0)
        self.assertEqual([int("9" * 3980)], parse_web("web 2 0\nedge 0 1 " + "9" * 3980)[1])
        self.assertLess(time.process_time() - started, 1)


class FormatWalk(unittest.TestCase):
    def test_steps(self):
        self.assertEqual("", format_walk([]))
        self.assertEqual("0+", format_walk([(0, 1)]))
        self.assertEqual("0- 0+ 59- 10+", format_walk([(0, -1), (0, 1), (59, -1), (10, 1)]))
        number = 10 ** 59 + 7
        self.assertEqual(f"{number}+ {number}-", format_walk([(number, 1), (number, -1)]))

    def test_arguments_stay(self):
        walk = [(0, 1), (1, -1)]
        format_walk(walk)
        self.assertEqual([(0, 1), (1, -1)], walk)

    def test_any_value(self):
        walks = [walk for walk in no_integers() if not (isinstance(walk, list) and walk in ([], [(0, 1)]))]
        walks += [0, 1, "0+", ((0, 1),), ((0, 1), (1, -1)), {0: 1}, {(0, 1)}, [0, 1], [[0, 1]], looped_list()]
        steps = [step for step in no_integers() if not (isinstance(step, tuple) and step == (0, 1))]
        steps += [0, 1, "0+", [0, 1], (0, 1, 1), (0,), (-1, 1), (-10 ** 59, -1), (0, 0), (0, 2), (0, -2), (0, 10 ** 59)]
        steps += [(number, 1) for number in no_integers()] + [(0, way) for way in no_integers()] + [(1, "+"), ("1", 1)]
        for step in steps:
            walks += [[step], [(0, 1), step], [step, (0, 1)]]
        for walk in walks:
            check_raises(self, InvalidWalk, walk, lambda: format_walk(walk))


class ParseWalk(unittest.TestCase):
    def refused(self, text, number):
        check_raises_count(self, InvalidText, number, lambda: parse_walk(text))

    def test_parsed_back(self):
        source = random.Random(293)
        walks = [random_walk(source, web) or [] for web in random_webs(200, 293)]
        walks += [[(source.randrange(10 ** source.randint(1, 60)), source.choice([1, -1])) for at in range(20)]]
        walks += [[(number % 60, 1 - 2 * (number % 7 % 2)) for number in range(1300)], [(10 ** 998, 1)], [(0, -1)], []]
        started = time.process_time()
        for walk in walks:
            text = format_walk(walk)
            result = parse_walk(text)
            self.assertEqual(walk, result)
            self.assertIs(list, type(result))
            self.assertTrue(all(type(step) is tuple for step in result))
            self.assertEqual(text, format_walk(result))
        self.assertLess(time.process_time() - started, 2)

    def test_results_are_new(self):
        parse_walk("").append(1)
        self.assertEqual([], parse_walk(""))
        parse_walk("1+").append(1)
        self.assertEqual([(1, 1)], parse_walk("1+"))

    def test_no_texts(self):
        for thing in no_texts():
            self.refused(thing, 0)

    def test_the_first_word_that_is_not_a_step(self):
        words = [word + sign for word in NO_NUMBERS for sign in "+-" if " " not in word]
        words += ["1*", "1+-", "a+", "1+\n", "\n1+", "1\n+", "1+\n2+", "(1,1)", "1+,", "+", "-", "--", "++", "1", "0"]
        words += ["+1", "-1+", "-1-", "-10+"]
        for word in words:
            for before in (0, 1, 5):
                text = " ".join(["1+"] * before + [word])
                self.refused(text, before)
                self.refused(text + " 1- x", before)

    def test_empty_words_are_counted(self):
        self.refused(" ", 0)
        self.refused(" 1+", 0)
        self.refused("1+ ", 1)
        self.refused("1+  2+", 1)
        self.refused("1+ 2- ", 2)
        self.refused("1+ 2-  3+ ", 2)
        self.refused("1+ 2-   3+", 2)
        self.refused("  x", 0)
        self.refused("1+ x  2+", 1)

    def test_other_values(self):
        self.assertEqual([(0, 1)], parse_walk("0+"))
        self.assertEqual([(10, -1), (0, -1)], parse_walk("10- 0-"))
        self.assertEqual([(int("9" * 3999), 1)], parse_walk("9" * 3999 + "+"))
        self.refused("0" * 3999 + "+", 0)
        self.refused(" " * 4000, 0)
        self.refused("\n", 0)
        for thing in (Hostile(), Agreeing(), b"", b"0+", [], [(0, 1)], 0, True):
            self.refused(thing, 0)


if __name__ == "__main__":
    unittest.main()
