"""Facts, their order and the barred days ([3], [4], [5]), and that nothing is changed or kept ([1])."""

import itertools
import unittest

from longhold import facts
from longhold.facts import barred, in_order, is_fact, of_field, walks
from interface import Defs
from kept import NothingKept

INTERFACE = {
    "is_fact": ["thing"],
    "in_order": ["facts"],
    "of_field": ["facts", "field"],
    "walks": ["facts", "over", "to"],
    "barred": ["facts", "one"],
    "line": ["fact"],
    "fact_of": ["text"],
}

# One fact of each word, none of its numbers at a bound.
PLAIN = [
    (5, "grant", 1, 2, 3),
    (5, "enter", 4, 2),
    (7, "leave", 2),
    (8, "hand", 3, 4),
    (9, "yes", 5),
    (10, "sue", 6, 7),
    (11, "win", 8),
    (12, "fall", 9),
    (13, "bar", 4, 20),
    (14, "walk", 2, 3),
]

# Where in the tuple of each word numbers of folk and fields stand.
PLACES = {
    "grant": [2, 3, 4],
    "enter": [2, 3],
    "leave": [2],
    "hand": [2, 3],
    "yes": [2],
    "sue": [2, 3],
    "win": [2],
    "fall": [2],
    "bar": [2],
    "walk": [2, 3],
}


def changed(fact, place, part):
    return (*fact[:place], part, *fact[place + 1:])


class Interface(Defs, unittest.TestCase):
    MODULE = facts
    DEFS = INTERFACE


class IsFact(unittest.TestCase):
    def told(self, thing, wanted):
        self.assertIs(is_fact(thing), wanted, thing)

    def test_each_word(self):
        self.assertEqual({fact[1] for fact in PLAIN}, set(PLACES))
        for fact in PLAIN:
            self.told(fact, True)

    def test_days_at_their_bounds_and_beyond(self):
        for fact in PLAIN:
            self.told(changed(fact, 0, 0), True)
            self.told(changed(fact, 0, -1), False)
            self.told(changed(fact, 0, 10000), False)
            if fact[1] != "bar":
                self.told(changed(fact, 0, 9999), True)

    def test_folk_and_fields_at_their_bounds_and_beyond(self):
        for fact in PLAIN:
            for place in PLACES[fact[1]]:
                for number, wanted in [(1, True), (999, True), (0, False), (1000, False), (-1, False)]:
                    # The other numbers are made unlike this one.
                    base = fact
                    for other in PLACES[fact[1]]:
                        base = changed(base, other, 500 + other)
                    self.told(changed(base, place, number), wanted)

    def test_until(self):
        self.told((5, "bar", 1, 6), True)
        self.told((5, "bar", 1, 5), False)
        self.told((5, "bar", 1, 4), False)
        self.told((5, "bar", 1, 0), False)
        self.told((5, "bar", 1, -6), False)
        self.told((0, "bar", 1, 1), True)
        self.told((0, "bar", 1, 0), False)
        self.told((0, "bar", 1, 10000), True)
        self.told((0, "bar", 1, 10001), False)
        self.told((9999, "bar", 1, 10000), True)
        self.told((9999, "bar", 1, 9999), False)
        self.told((9999, "bar", 1, 10001), False)
        self.told((10000, "bar", 1, 10001), False)

    def test_those_that_must_be_unlike(self):
        self.told((5, "grant", 1, 2, 2), False)
        self.told((5, "grant", 1, 0, 2), False)
        self.told((5, "grant", 1, 2, 0), False)
        self.told((5, "grant", 1, 0, 0), False)
        self.told((5, "walk", 3, 3), False)
        self.told((5, "walk", 0, 0), False)

    def test_others_may_be_alike(self):
        self.told((1, "grant", 1, 1, 2), True)
        self.told((1, "grant", 2, 1, 2), True)
        self.told((5, "enter", 5, 5), True)
        self.told((5, "hand", 5, 5), True)
        self.told((5, "sue", 5, 5), True)
        self.told((5, "bar", 5, 6), True)
        self.told((5, "bar", 6, 6), True)

    def test_a_part_too_few_or_too_many(self):
        self.told((), False)
        self.told((5,), False)
        self.told(("leave",), False)
        for fact in PLAIN:
            self.told(fact[:-1], False)
            self.told(fact[:2], False)
            self.told(fact[1:], False)
            self.told((*fact, 1), False)
            self.told((*fact, "1"), False)
            self.told((*fact, 700), False)

    def test_kinds_at_other_places(self):
        for fact in PLAIN:
            for place in [0, *range(2, len(fact))]:
                for part in [str(fact[place]), "", fact[1], "a"]:
                    self.told(changed(fact, place, part), False)
            for part in [0, 1, 5, -1, 10 ** 5000]:
                self.told(changed(fact, 1, part), False)
            self.told((fact[1], fact[0], *fact[2:]), False)
            self.told(tuple(str(part) for part in fact), False)
        self.told(("walk", "walk", "walk", "walk"), False)
        self.told((5, "grant", 1, "2", "2"), False)
        self.told((5, "walk", "a", "a"), False)
        self.told((1, 2, 3), False)

    def test_other_words(self):
        for word in [
            "", "grants", "Grant", "GRANT", "gran", " grant", "grant ", "grant\n", "give", "0", "field", "folk",
        ]:
            for fact in PLAIN:
                self.told(changed(fact, 1, word), False)
        for fact, other in itertools.product(PLAIN, repeat=2):
            if len(PLACES[fact[1]]) != len(PLACES[other[1]]) and "bar" not in (fact[1], other[1]):
                self.told(changed(fact, 1, other[1]), False)

    def test_very_large_numbers(self):
        for fact in PLAIN:
            for place in [0, *range(2, len(fact))]:
                for number in [10 ** 30, -10 ** 30, 10 ** 5000, -10 ** 5000]:
                    self.told(changed(fact, place, number), False)


# All words on one day and on others, several of a kind, in their order.
RISING = [
    (0, "yes", 999),
    (3, "bar", 1, 4),
    (3, "bar", 1, 10),
    (3, "bar", 2, 4),
    (3, "enter", 1, 2),
    (3, "enter", 2, 1),
    (3, "fall", 1),
    (3, "grant", 1, 2, 1),
    (3, "grant", 1, 2, 3),
    (3, "grant", 1, 10, 2),
    (3, "grant", 2, 1, 2),
    (3, "hand", 1, 1),
    (3, "leave", 1),
    (3, "sue", 1, 3),
    (3, "walk", 1, 2),
    (3, "win", 1),
    (3, "yes", 1),
    (20, "bar", 1, 21),
    (100, "bar", 1, 101),
]


class InOrder(unittest.TestCase):
    def test_words_of_one_day_and_days_as_numbers(self):
        for step in [1, 2, 3, 5, 7]:
            mixed = [RISING[at * step * 4 % len(RISING)] for at in range(len(RISING))]
            self.assertEqual(in_order(mixed), RISING)
        self.assertEqual(in_order(RISING[::-1]), RISING)
        self.assertEqual(in_order(RISING), RISING)

    def test_every_order_of_a_few(self):
        few = RISING[6:8] + RISING[9:10] + RISING[12:14] + RISING[16:]
        for mixed in itertools.permutations(few):
            self.assertEqual(in_order(list(mixed)), few)

    def test_each_as_often_as_it_is_handed_in(self):
        twice = [fact for fact in RISING for _ in range(2)]
        self.assertEqual(in_order(RISING[::-1] + RISING), twice)
        self.assertEqual(in_order([(1, "win", 1)] * 3), [(1, "win", 1)] * 3)

    def test_none(self):
        self.assertEqual(in_order([]), [])


class OfField(unittest.TestCase):
    def test_the_eight_words_and_no_others(self):
        mixed = [changed(fact, 2, 7) for fact in PLAIN]
        wanted = ["enter", "fall", "grant", "hand", "leave", "sue", "win", "yes"]
        self.assertEqual(sorted(fact[1] for fact in of_field(mixed, 7)), wanted)
        for fact in mixed:
            self.assertEqual(of_field([fact], 7), [fact] if fact[1] in wanted else [])

    def test_only_of_that_field(self):
        mixed = RISING[::-1]
        wanted = [fact for fact in RISING if fact[1] not in ("bar", "walk") and fact[2] == 1]
        self.assertEqual(of_field(mixed, 1), wanted)
        self.assertEqual(of_field(mixed, 2), [(3, "enter", 2, 1), (3, "grant", 2, 1, 2)])
        self.assertEqual(of_field(mixed, 999), [(0, "yes", 999)])

    def test_numbers_of_folk_and_ways_are_no_fields(self):
        mixed = [(1, "bar", 3, 4), (1, "walk", 3, 4), (1, "walk", 4, 3), (1, "enter", 4, 3), (3, "grant", 4, 3, 5)]
        self.assertEqual(of_field(mixed, 3), [])

    def test_in_order_and_twice_as_handed_in(self):
        mixed = [(9, "win", 1), (2, "sue", 1, 2), (9, "win", 1), (9, "fall", 1), (2, "sue", 2, 2), (10, "yes", 1)]
        wanted = [(2, "sue", 1, 2), (9, "fall", 1), (9, "win", 1), (9, "win", 1), (10, "yes", 1)]
        self.assertEqual(of_field(mixed, 1), wanted)

    def test_none(self):
        self.assertEqual(of_field([], 1), [])
        self.assertEqual(of_field(RISING, 5), [])
        self.assertEqual(of_field(RISING, 0), [])


class Walks(unittest.TestCase):
    MIXED = [
        (90, "walk", 1, 2),
        (100, "walk", 1, 2),
        (3, "walk", 1, 2),
        (7, "walk", 2, 1),
        (3, "walk", 1, 2),
        (8, "walk", 1, 3),
        (9, "walk", 3, 2),
        (1, "enter", 1, 2),
        (2, "bar", 1, 2),
        (4, "sue", 1, 2),
        (0, "walk", 1, 2),
        (9999, "walk", 1, 2),
        (90, "walk", 1, 2),
    ]

    def test_days_rising_each_once(self):
        self.assertEqual(walks(self.MIXED, 1, 2), [0, 3, 90, 100, 9999])

    def test_the_way_back_is_another_one(self):
        self.assertEqual(walks(self.MIXED, 2, 1), [7])
        self.assertEqual(walks(self.MIXED, 1, 3), [8])
        self.assertEqual(walks(self.MIXED, 3, 2), [9])

    def test_none(self):
        self.assertEqual(walks(self.MIXED, 3, 1), [])
        self.assertEqual(walks(self.MIXED, 2, 2), [])
        self.assertEqual(walks([], 1, 2), [])


class Barred(unittest.TestCase):
    MIXED = [
        (20, "bar", 1, 25),
        (3, "bar", 1, 5),
        (5, "bar", 1, 6),
        (4, "bar", 2, 30),
        (22, "bar", 1, 24),
        (24, "bar", 1, 27),
        (3, "bar", 1, 5),
        (0, "bar", 3, 10000),
        (9, "enter", 1, 4),
        (9, "walk", 1, 40),
        (9, "sue", 1, 40),
    ]

    def test_the_set_of_all_days_of_the_bars_of_one(self):
        self.assertEqual(barred(self.MIXED, 1), [(3, 6), (20, 27)])
        self.assertEqual(barred(self.MIXED, 2), [(4, 30)])
        self.assertEqual(barred(self.MIXED, 3), [(0, 10000)])

    def test_one_day(self):
        self.assertEqual(barred([(7, "bar", 9, 8)], 9), [(7, 8)])
        self.assertEqual(barred([(9999, "bar", 9, 10000), (7, "bar", 9, 8)], 9), [(7, 8), (9999, 10000)])

    def test_none_and_nobody(self):
        self.assertEqual(barred(self.MIXED, 4), [])
        self.assertEqual(barred(self.MIXED, 0), [])
        self.assertEqual(barred([], 1), [])
        self.assertEqual(barred([], 0), [])


class Kept(NothingKept, unittest.TestCase):
    CALLS = [
        (in_order, [[]]),
        (in_order, [RISING]),
        (in_order, [RISING[::-1]]),
        (of_field, [RISING[::-1], 1]),
        (of_field, [[(1, "win", 1), (2, "win", 1)], 1]),
        (of_field, [[(2, "win", 1), (1, "win", 1)], 1]),
        (walks, [Walks.MIXED, 1, 2]),
        (barred, [Barred.MIXED, 1]),
    ]


if __name__ == "__main__":
    unittest.main()
