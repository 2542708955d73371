"""A fact as a text, there and back ([15])."""

import re
import unittest

from longhold.errors import BadLine
from longhold.facts import fact_of, is_fact, line
from soon import SoonCase

LINES = {
    "grant 5 1 2 3": (5, "grant", 1, 2, 3),
    "grant 0 999 1 999": (0, "grant", 999, 1, 999),
    "grant 9999 1 999 1": (9999, "grant", 1, 999, 1),
    "enter 5 4 2": (5, "enter", 4, 2),
    "enter 9999 999 999": (9999, "enter", 999, 999),
    "leave 7 2": (7, "leave", 2),
    "leave 0 1": (0, "leave", 1),
    "hand 8 3 4": (8, "hand", 3, 4),
    "hand 10 30 400": (10, "hand", 30, 400),
    "yes 9 5": (9, "yes", 5),
    "yes 9999 999": (9999, "yes", 999),
    "sue 10 6 7": (10, "sue", 6, 7),
    "sue 0 1 1": (0, "sue", 1, 1),
    "win 11 8": (11, "win", 8),
    "win 9000 100": (9000, "win", 100),
    "fall 12 9": (12, "fall", 9),
    "fall 0 10": (0, "fall", 10),
    "bar 13 4 20": (13, "bar", 4, 20),
    "bar 0 1 1": (0, "bar", 1, 1),
    "bar 9999 999 10000": (9999, "bar", 999, 10000),
    "bar 0 999 10000": (0, "bar", 999, 10000),
    "walk 14 2 3": (14, "walk", 2, 3),
    "walk 9999 999 1": (9999, "walk", 999, 1),
}

FORM = re.compile(r"[a-z]+( (0|[1-9][0-9]*)){2,4}", re.ASCII)


class Line(unittest.TestCase):
    def test_each_word(self):
        self.assertEqual(len({fact[1] for fact in LINES.values()}), 10)
        for text, fact in LINES.items():
            self.assertEqual(line(fact), text)


class FactOf(SoonCase):
    def told(self, text, fact):
        read = fact_of(text)
        self.assertEqual(read, fact)
        self.assertIs(isinstance(read, tuple), True)

    def refused(self, text):
        # Any other error than BadLine goes through and ends the test.
        with self.assertRaises(BadLine, msg=repr(text[:60])):
            fact_of(text)

    def test_each_word_there_and_back(self):
        for text, fact in LINES.items():
            self.told(text, fact)
            self.told(line(fact), fact)

    def test_blanks(self):
        for text in LINES:
            self.refused(" " + text)
            self.refused(text + " ")
            self.refused(text.replace(" ", ""))
            for at, sign in enumerate(text):
                if sign == " ":
                    self.refused(text[:at] + " " + text[at:])
                    self.refused(text[:at] + text[at + 1:] + " ")

    def test_line_feeds(self):
        for text in LINES:
            self.refused("\n" + text)
            self.refused(text + "\n")
            self.refused(text + "\n" + text)
            self.refused(text.replace(" ", "\n"))
            self.refused(text.replace(" ", "\n", 1))
            self.refused(text.replace(" ", " \n", 1))

    def test_needless_noughts(self):
        for text in LINES:
            parts = text.split(" ")
            for at in range(1, len(parts)):
                for ahead in ["0", "00", "0000", "0" * 5000]:
                    self.refused(" ".join([*parts[:at], ahead + parts[at], *parts[at + 1:]]))

    def test_signs_in_numbers(self):
        for text in LINES:
            parts = text.split(" ")
            for at in range(1, len(parts)):
                number = parts[at]
                for other in ["+" + number, "-" + number, number + "-", number + ".", number + ".0", "_" + number,
                              "1_0", "0x1", "1e1", number + ",", "(" + number + ")", "a", number + "a", "", "'1'"]:
                    self.refused(" ".join([*parts[:at], other, *parts[at + 1:]]))

    def test_minus_nought(self):
        self.refused("leave -0 1")
        self.refused("leave +0 1")
        self.refused("leave 00 1")
        self.told("leave 0 1", (0, "leave", 1))

    def test_numbers_beyond_the_bounds(self):
        for text in [
            "leave 10000 1", "leave -1 1", "leave 5 0", "leave 5 1000", "leave 5 -1", "leave 99999 1",
            "grant 5 0 2 3", "grant 5 1 0 3", "grant 5 1 2 0", "grant 5 1000 2 3", "grant 5 1 1000 3",
            "grant 5 1 2 1000", "grant 10000 1 2 3", "enter 5 1 0", "enter 5 0 1", "enter 5 1 1000",
            "hand 5 1 0", "hand 5 1000 1", "yes 5 0", "yes 5 1000", "sue 5 0 1", "sue 5 1 1000",
            "win 5 0", "win 10000 1", "fall 5 0", "fall 5 1000", "bar 5 0 6", "bar 5 1000 6",
            "bar 5 1 10001", "bar 10000 1 10001", "walk 5 0 1", "walk 5 1 1000", "walk 5 1000 1",
        ]:
            self.refused(text)

    def test_tuples_that_are_no_facts(self):
        for text in ["grant 5 1 2 2", "walk 5 3 3", "bar 5 1 5", "bar 5 1 4", "bar 5 1 0"]:
            self.refused(text)

    def test_numbers_of_very_many_figures(self):
        for figures in [6, 30, 4299, 4300, 4301, 5000, 100000]:
            for text in LINES:
                parts = text.split(" ")
                for at in range(1, len(parts)):
                    self.refused(" ".join([*parts[:at], "1" * figures, *parts[at + 1:]]))
        self.refused("1" * 5000)
        self.refused("grant " + "9" * 5000)
        self.refused("grant -" + "9" * 5000 + " 1 2 3")
        self.refused("1" * 5000 + " 5 1 2 3")

    def test_words_missing_or_too_many(self):
        for text in LINES:
            parts = text.split(" ")
            for at in range(len(parts)):
                self.refused(" ".join(parts[:at] + parts[at + 1:]))
            self.refused(parts[0])
            self.refused(parts[0] + " ")
            self.refused(" ".join(parts[1:]))
            self.refused(text + " 1")
            self.refused(text + " 0")
            self.refused(text + " " + parts[0])
            self.refused(parts[0] + " " + text)
            self.refused(" ".join([parts[1], parts[0], *parts[2:]]))
            self.refused(" ".join(parts[::-1]))

    def test_other_words(self):
        for word in [
            "", "Grant", "GRANT", "grants", "gran", "give", "5", "0", "terms", "folk", "field", "grant,", "'grant'",
        ]:
            for text in LINES:
                self.refused(" ".join([word, *text.split(" ")[1:]]))

    def test_texts_that_are_nothing_like_it(self):
        for text in ["", " ", "  ", "\n", "0", "5", "5 5", "a b c", "~", "grant\n5\n1\n2\n3", "(5, 'grant', 1, 2, 3)"]:
            self.refused(text)

    def test_every_text_near_to_one(self):
        """One sign dropped, put in or changed: read only if it is the text of the fact that is told."""
        read = 0
        for text in LINES:
            for at in range(len(text) + 1):
                near = [text[:at] + text[at + 1:]]
                for sign in " \n0159+-._abglr~":
                    near += [text[:at] + sign + text[at:], text[:at] + sign + text[at + 1:]]
                for other in near:
                    read += self.near(other)
        self.assertGreater(read, 100)

    def near(self, text):
        wanted = None
        if FORM.fullmatch(text):
            word, day, *numbers = text.split(" ")
            wanted = (int(day), word, *map(int, numbers))
        if wanted is None or not is_fact(wanted):
            self.refused(text)
            return 0
        self.told(text, wanted)
        return 1


if __name__ == "__main__":
    unittest.main()
