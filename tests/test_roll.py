"""A book as a text, there and back ([16])."""

import itertools
import unittest

from books import made
from interface import Defs
from longhold import roll
from longhold.book import Book
from longhold.errors import BadLine
from longhold.facts import line
from longhold.roll import read_book, written
from soon import SoonCase

INTERFACE = {"written": ["book"], "read_book": ["text"]}

FACTS = [
    (0, "walk", 1, 2), (5, "bar", 3, 10000), (5, "enter", 1, 2), (5, "enter", 1, 10), (5, "grant", 2, 1, 10),
    (6, "fall", 1), (6, "hand", 1, 3), (6, "leave", 3), (6, "sue", 2, 1), (6, "win", 1), (6, "yes", 2),
    (9999, "walk", 3, 1),
]
TEXT = """terms 3 6 10 999 1
folk 10
field 1
field 0
field 10
walk 0 1 2
bar 5 3 10000
enter 5 1 2
enter 5 1 10
grant 5 2 1 10
fall 6 1
hand 6 1 3
leave 6 3
sue 6 2 1
win 6 1
yes 6 2
walk 9999 3 1"""
SMALL = "terms 1 1 1 1 1\nfolk 2\nfield 0\nfield 2\nleave 7 1\nleave 10 2"
# What may stand in a text near to SMALL.
NUMBERS = {str(number) for number in range(1000)}
LINES = {line((day, "leave", field)): (day, "leave", field) for day in range(1000) for field in (1, 2)}


class RollCase(SoonCase):
    def refused(self, text):
        # Any other error than BadLine goes through and ends the test.
        with self.assertRaises(BadLine, msg=repr(text[:300])) as caught:
            read_book(text)
        self.assertIs(type(caught.exception), BadLine)


class Interface(Defs, unittest.TestCase):
    MODULE = roll
    DEFS = INTERFACE


class Written(RollCase):
    def test_rows_in_their_order(self):
        self.assertEqual(written(made((3, 6, 10, 999, 1), 10, [1, 0, 10], FACTS[::-1])), TEXT)

    def test_without_folk_fields_or_facts(self):
        self.assertEqual(written(Book((1, 2, 3, 4, 5))), "terms 1 2 3 4 5\nfolk 0")
        self.assertEqual(written(made((1, 2, 3, 4, 5), 7, [], [])), "terms 1 2 3 4 5\nfolk 7")
        self.assertEqual(written(made((1, 2, 3, 4, 5), 0, [0], [])), "terms 1 2 3 4 5\nfolk 0\nfield 0")
        self.assertEqual(written(made((1, 2, 3, 4, 5), 1, [], [(3, "bar", 1, 4)])),
                         "terms 1 2 3 4 5\nfolk 1\nbar 3 1 4")

    def test_only_what_stands(self):
        book = made((1, 1, 1, 1, 1), 2, [0, 2], [(7, "leave", 1), (8, "win", 1), (10, "leave", 2)])
        book.strike(2)
        self.assertEqual(written(book), SMALL)

    def test_writing_changes_nothing(self):
        book = made((3, 6, 10, 999, 1), 10, [1, 0, 10], FACTS)
        self.assertEqual(written(book), written(book))
        self.assertEqual((book.deeds(), book.facts()), (len(FACTS), FACTS))


class Read(RollCase):
    def test_there_and_back(self):
        walks = [(50 * at, "walk", at % 20 + 1, (at + 1) % 20 + 1) for at in range(200)]
        full = made((1, 1, 1, 1, 1), 40, range(21, 41), walks)
        for text in [TEXT, SMALL, "terms 1 2 3 4 5\nfolk 0", "terms 999 999 999 999 999\nfolk 40\nfield 40",
                     "terms 1 1 1 1 1\nfolk 0\n" + "\n".join(["field 0"] * 20), written(full)]:
            self.assertEqual(written(read_book(text)), text)

    def test_all_that_the_book_has(self):
        book = read_book(TEXT)
        self.assertIsInstance(book, Book)
        self.assertEqual((book.terms(), book.folk(), book.fields()), ((3, 6, 10, 999, 1), 10, [1, 0, 10]))
        self.assertEqual(book.facts(), FACTS)
        # Told in their order from number 1 on.
        self.assertEqual([book.numbered(at) for at in range(1, 13)], FACTS)
        self.assertEqual(book.deeds(), 12)
        self.assertEqual([book.known(count) for count in range(13)], [FACTS[:count] for count in range(13)])
        self.assertEqual(book.tell((1, "win", 1)), 13)

    def test_two_hundred_facts_and_one_more(self):
        rows = ["terms 1 1 1 1 1", "folk 0", "field 0"] + [f"leave {at} 1" for at in range(200)]
        self.assertEqual(written(read_book("\n".join(rows))), "\n".join(rows))
        self.refused("\n".join(rows + ["leave 200 1"]))
        self.refused("\n".join(rows + [f"leave {at} 1" for at in range(200, 9999)]))


class Refused(RollCase):
    def test_rows_missing_twice_or_in_another_order(self):
        rows = SMALL.split("\n")
        for order in itertools.permutations(range(6)):
            text = "\n".join(rows[at] for at in order)
            # The fields may change places.
            if order in [(0, 1, 2, 3, 4, 5), (0, 1, 3, 2, 4, 5)]:
                self.assertEqual(written(read_book(text)), text)
            else:
                self.refused(text)
        for at in (0, 1):
            self.refused("\n".join(rows[:at] + rows[at + 1:]))
        for at in (0, 1, 4, 5):
            self.refused("\n".join(rows[:at] + [rows[at]] + rows[at:]))
            self.refused("\n".join(rows + [rows[at]]))
        # Without a field a fact of it is none of the book.
        self.refused("\n".join(rows[:3] + rows[4:]))
        self.refused("\n".join(rows[:2] + rows[4:]))

    def test_texts_that_are_nothing_like_it(self):
        for text in ["", " ", "\n", "\n\n", "terms", "folk", "terms 1 1 1 1 1", "folk 0", "terms 1 1 1 1 1\n",
                     "folk 0\nterms 1 1 1 1 1", "leave 7 1", "field 0", "~", "1", "1 1 1 1 1\n0"]:
            self.refused(text)

    def test_line_feeds_and_blanks(self):
        for text in (TEXT, SMALL):
            self.refused("\n" + text)
            self.refused(text + "\n")
            self.refused(text.replace("\n", "\n\n", 1))
            self.refused(text.replace("\n", " ", 1))
            self.refused(" " + text)
            self.refused(text + " ")
            self.refused(text.replace(" ", "\n", 1))
            self.refused(text.replace("\n", "\n ", 1))
            self.refused(text.replace("\n", " \n", 1))
            self.refused(text.replace(" ", "  ", 1))
            self.refused(text.replace("\nfield", " field", 1))
            self.refused(text.replace("\nleave", "\n\nleave", 1))

    def test_terms(self):
        for numbers in ["0 1 1 1 1", "2 1 1 1 1", "1 1000 1 1 1", "1 1 0 1 1", "1 1 1 1000 1", "1 1 1 1 0", "1 1 1 1",
                        "1 1 1 1 1 1", "01 1 1 1 1", "1 1 1 1 01", "+1 1 1 1 1", "1 1 1 1 -1", "1 1 a 1 1", "", "1",
                        "1 1 1 1 ", "1  1 1 1", "1_0 10 1 1 1"]:
            self.refused(f"terms {numbers}\nfolk 0")
        for word in ["Terms", "term", "", "folk", "terms,"]:
            self.refused(f"{word} 1 1 1 1 1\nfolk 0")

    def test_folk(self):
        for rest in ["folk 41", "folk 999", "folk 99999", "folk -1", "folk 00", "folk 01", "folk +1", "folk", "folk ",
                     "folk 1 1", "folk a", "Folk 1", "field 0", "folks 1", "folk  1", "folk 1.0", "folk ''"]:
            self.refused(f"terms 1 1 1 1 1\n{rest}")

    def test_fields(self):
        for rest in ["field 3", "field 41", "field 999", "field 99999", "field -1", "field 00", "field 01", "field",
                     "field ", "field 1 1", "field a", "Field 1", "fields 1", "field  1", "field 1\nfield 3"]:
            self.refused(f"terms 1 1 1 1 1\nfolk 2\n{rest}")
        self.refused("terms 1 1 1 1 1\nfolk 2\n" + "\n".join(["field 1"] * 21))
        self.refused("terms 1 1 1 1 1\nfolk 2\n" + "\n".join(["field 1"] * 20000))

    def test_facts(self):
        for rest in [
            "enter 5 1 3", "enter 5 3 1", "leave 5 3", "leave 5 0", "bar 5 3 9", "bar 5 1 5", "bar 5 1 10001",
            "walk 5 1 1", "walk 5 1 3", "grant 5 1 1 1", "grant 5 1 1 3", "leave 10000 1", "leave 05 1", "leave 5 01",
            "left 5 1", "leave 5", "leave 5 1 1", "Leave 5 1", "leave 6 1\nleave 5 1", "leave 5 1\nleave 5 1",
            "leave 5 2\nleave 5 1", "leave 5 1\nenter 5 1 1", "leave 10 1\nleave 9 1", "leave 5 1\nfield 1",
        ]:
            self.refused(f"terms 1 1 1 1 1\nfolk 2\nfield 1\nfield 2\n{rest}")
        for rest in ["enter 5 2 2", "leave 5 1", "bar 5 2 6", "bar 0 1 10000", "walk 5 1 2", "leave 5 1\nleave 5 2",
                     "enter 5 1 1\nleave 5 1", "leave 9 1\nleave 10 1"]:
            text = f"terms 1 1 1 1 1\nfolk 2\nfield 1\nfield 2\n{rest}"
            self.assertEqual(written(read_book(text)), text)

    def test_numbers_of_very_many_figures(self):
        for figures in (6, 30, 4299, 4300, 4301, 5000, 100000):
            for sign in ("1", "0", "9"):
                for text in (TEXT, SMALL):
                    rows = text.split("\n")
                    for at, row in enumerate(rows):
                        parts = row.split(" ")
                        for place in range(1, len(parts)):
                            other = " ".join(parts[:place] + [sign * figures] + parts[place + 1:])
                            self.refused("\n".join(rows[:at] + [other] + rows[at + 1:]))

    def test_every_text_near_to_one(self):
        """One sign dropped, put in or changed: read only if it is the text of a book."""
        read = 0
        for at in range(len(SMALL) + 1):
            near = [SMALL[:at] + SMALL[at + 1:]]
            for sign in " \n01239+-._aefilmrst~":
                near += [SMALL[:at] + sign + SMALL[at:], SMALL[:at] + sign + SMALL[at + 1:]]
            for text in near:
                wanted = self.book_by_hand(text)
                if wanted is None:
                    self.refused(text)
                else:
                    book = read_book(text)
                    self.assertEqual((book.terms(), book.folk(), book.fields(), book.facts()), wanted, text)
                    read += 1
        self.assertGreater(read, 100)

    def book_by_hand(self, text):
        """Terms, folk, fields and facts of a text near to SMALL, or None."""
        rows = text.split("\n")
        if len(rows) != 6 or any(row.count(" ") != many for row, many in zip(rows, (5, 1, 1, 1, 2, 2))):
            return None
        parts = [row.split(" ") for row in rows]
        if [part[0] for part in parts[:4]] != ["terms", "folk", "field", "field"]:
            return None
        figures = [one for part in parts[:4] for one in part[1:]]
        if not all(one in NUMBERS for one in figures) or rows[4] not in LINES or rows[5] not in LINES:
            return None
        terms, (folk, *owners) = tuple(map(int, figures[:5])), map(int, figures[5:])
        facts = [LINES[rows[4]], LINES[rows[5]]]
        if 0 in terms or terms[0] > terms[1] or folk > 40 or max(owners) > folk or facts[0] >= facts[1]:
            return None
        return terms, folk, owners, facts


if __name__ == "__main__":
    unittest.main()
