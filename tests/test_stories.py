"""Every short story of one field, and every short use of a way, beside the slow walk ([7] to [12])."""

import itertools
import random
import unittest

from longhold.course import Course
from longhold.ways import Way
from slow import SlowCourse, gathered, slow_way
from soon import SoonCase

TERMS = (2, 4, 1, 1, 1)
DAYS = 26
# What may happen to a field that folk 1 owns and folk 2 holds; 9 owns nothing and never holds.
HAPPENINGS = [
    ("enter", 1), ("enter", 3), ("grant", 1, 2), ("grant", 1, 3), ("grant", 2, 1), ("grant", 9, 3), ("leave",),
    ("hand", 1), ("hand", 3), ("yes",), ("sue", 1), ("win",), ("fall",),
]
BARS = [(5, "bar", 1, 6), (7, "bar", 2, 9), (8, "bar", 3, 9)]


class Stories(SoonCase):
    def alike(self, owner, facts, bars=()):
        slow = SlowCourse(owner, [*facts, *bars], 1, TERMS, DAYS)
        barred = {one: gathered(days) for one, days in slow.barred.items()}
        course = Course(owner, sorted(facts), barred, TERMS)
        self.assertEqual(course.stands(), slow.stands(), facts)
        self.assertEqual(course.ripenings(), slow.ripe, facts)
        for day in range(DAYS):
            told = course.counts(day), course.lacks(day), course.fruits(day)
            self.assertEqual(told, (slow.counts(day), slow.lacks(day), slow.fruits(day)), (facts, day))

    def test_four_happenings_one_behind_another_with_any_gaps(self):
        for happenings in itertools.product(HAPPENINGS, repeat=4):
            gaps = random.Random(str(happenings))
            day, facts = 0, [(0, "enter", 1, 2)]
            for word, *numbers in happenings:
                day += gaps.randint(0, 3)
                facts.append((day, word, 1, *numbers))
            self.alike(1, list(dict.fromkeys(facts)), BARS)

    def test_a_suit_and_four_happenings(self):
        for happenings in itertools.product(HAPPENINGS, repeat=4):
            facts = [(0, "enter", 1, 2), (1, "sue", 1, 1)]
            for day, (word, *numbers) in enumerate(happenings, 2):
                facts.append((day, word, 1, *numbers))
            self.alike(1, facts + [(9, "win", 1)])

    def test_four_happenings_of_one_day(self):
        for happenings in itertools.combinations(HAPPENINGS, 4):
            facts = [(2, word, 1, *numbers) for word, *numbers in happenings]
            self.alike(1, [(0, "enter", 1, 2), *facts])
            self.alike(1, [(0, "grant", 1, 9, 2), (0, "enter", 1, 2), *facts])
            self.alike(0, [(0, "enter", 1, 2), *facts])
            self.alike(1, [(1, "enter", 1, 1), *facts])


class Uses(SoonCase):
    """Field 1 goes to and fro between folk 1 and 3, field 2 is of folk 2 and then of folk 1 or 3."""

    OVER = [(4, "grant", 1, 1, 3), (8, "grant", 1, 3, 1)]
    TO = [(6, "grant", 1, 2, 1), (9, "grant", 1, 1, 2)]
    BARS = {1: [(1, 3)], 2: [(4, 6), (10, 11)], 3: [(5, 6)]}

    def test_all_walks_on_ten_days(self):
        for terms in itertools.product((1, 3), (1, 2, 4), (1, 3)):
            for over, to, bars in [([], [], {}), ([], [], self.BARS), (self.OVER, self.TO, self.BARS)]:
                courses = Course(1, over, {}, TERMS), Course(2, to, {}, TERMS)
                owners = [[course.owner_on(day) for day in range(DAYS)] for course in courses]
                barred = {one: {day for span in bars[one] for day in range(*span)} for one in bars}
                for many in range(2 ** 10):
                    walks = [day for day in range(10) if many >> day & 1]
                    told = slow_way(*owners, walks, barred, (1, 1, *terms), DAYS)
                    way = Way(*courses, walks, bars, (1, 1, *terms))
                    wanted = gathered({day for day in range(DAYS) if told[day]})
                    self.assertEqual(way.standing(DAYS), wanted, (terms, bars, walks))
                    turns = sorted([(first, True) for first, _ in wanted] + [(behind, False) for _, behind in wanted])
                    self.assertEqual(way.turns(), turns, (terms, bars, walks))


if __name__ == "__main__":
    unittest.main()
