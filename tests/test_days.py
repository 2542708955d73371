"""Sets of days ([2]), and that nothing handed in is changed or kept ([1])."""

import itertools
import unittest

from longhold import days
from longhold.days import clipped, common, counted, holds, is_days, joined, length, reach, tidy, without
from interface import Defs
from kept import NothingKept
from slow import gathered, spread
from soon import SoonCase

FAR = 10 ** 30 - 1
GREAT = 10 ** 12

INTERFACE = {
    "is_days": ["rows"],
    "tidy": ["rows"],
    "holds": ["days", "day"],
    "length": ["days"],
    "joined": ["one", "other"],
    "common": ["one", "other"],
    "without": ["one", "other"],
    "clipped": ["days", "first", "behind"],
    "counted": ["holes", "first", "behind"],
    "reach": ["holes", "first", "many"],
}


def subsets(universe):
    for many in range(len(universe) + 1):
        yield from (set(some) for some in itertools.combinations(universe, many))


SMALL = [(some, gathered(some)) for some in subsets(range(-3, 4))]


class Interface(Defs, unittest.TestCase):
    MODULE = days
    DEFS = INTERFACE


class IsDays(SoonCase):
    def told(self, rows, wanted):
        self.assertIs(is_days(rows), wanted, rows)

    def test_lists_of_sets(self):
        self.told([], True)
        self.told([(0, 1)], True)
        self.told([(-5, -4)], True)
        self.told([(0, 1), (2, 3)], True)
        self.told([(-9, -7), (-6, 0), (1, 2), (5, 40)], True)

    def test_spans_without_days(self):
        self.told([(3, 3)], False)
        self.told([(4, 3)], False)
        self.told([(0, 1), (2, 2)], False)
        self.told([(2, 2), (3, 4)], False)
        self.told([(0, 1), (3, 2), (5, 6)], False)

    def test_spans_that_touch_overlap_go_back_or_stand_twice(self):
        self.told([(0, 1), (1, 2)], False)
        self.told([(0, 3), (2, 5)], False)
        self.told([(0, 9), (2, 5)], False)
        self.told([(4, 5), (0, 1)], False)
        self.told([(0, 1), (4, 5), (2, 3)], False)
        self.told([(0, 1), (0, 1)], False)
        self.told([(0, 1), (0, 2)], False)

    def test_numbers_as_large_as_may_be(self):
        self.told([(-FAR, FAR)], True)
        self.told([(-FAR, -1), (0, FAR)], True)
        self.told([(-FAR, 0), (0, FAR)], False)
        self.told([(FAR - 1, FAR)], True)
        self.told([(FAR, FAR)], False)
        self.told([(FAR, -FAR)], False)

    def test_all_short_lists_of_small_spans(self):
        spans = list(itertools.product(range(-1, 3), repeat=2))
        for many in range(4):
            for rows in itertools.product(spans, repeat=many):
                rows = list(rows)
                self.told(rows, rows == gathered(spread(rows)))

    def test_two_hundred_spans(self):
        rows = [(3 * at, 3 * at + 2) for at in range(-100, 100)]
        self.told(rows, True)
        self.told(rows[:-1] + [rows[0]], False)


class Tidy(SoonCase):
    def test_any_order(self):
        for rows in itertools.permutations([(0, 1), (2, 4), (9, 11), (-7, -6)]):
            self.assertEqual(tidy(list(rows)), [(-7, -6), (0, 1), (2, 4), (9, 11)])

    def test_overlapping_touching_within_and_twice(self):
        self.assertEqual(tidy([(0, 3), (2, 5)]), [(0, 5)])
        self.assertEqual(tidy([(2, 5), (0, 3)]), [(0, 5)])
        self.assertEqual(tidy([(0, 2), (2, 4)]), [(0, 4)])
        self.assertEqual(tidy([(0, 2), (3, 4)]), [(0, 2), (3, 4)])
        self.assertEqual(tidy([(0, 9), (2, 4)]), [(0, 9)])
        self.assertEqual(tidy([(0, 9), (2, 4), (3, 10)]), [(0, 10)])
        self.assertEqual(tidy([(0, 9), (0, 4)]), [(0, 9)])
        self.assertEqual(tidy([(1, 2), (1, 2)]), [(1, 2)])

    def test_without_days(self):
        self.assertEqual(tidy([]), [])
        self.assertEqual(tidy([(4, 4)]), [])
        self.assertEqual(tidy([(4, 2)]), [])
        self.assertEqual(tidy([(4, -4), (1, 2), (3, 3)]), [(1, 2)])
        self.assertEqual(tidy([(0, 1), (1, 1), (2, 1), (2, 3)]), [(0, 1), (2, 3)])
        self.assertEqual(tidy([(0, 5), (3, 2)]), [(0, 5)])

    def test_all_short_lists_of_small_spans(self):
        spans = list(itertools.product(range(-1, 3), repeat=2))
        for many in range(4):
            for rows in itertools.product(spans, repeat=many):
                told = tidy(list(rows))
                self.assertEqual(told, gathered(spread(rows)), rows)
                self.assertTrue(all(isinstance(row, tuple) for row in told))

    def test_long_spans(self):
        self.assertEqual(tidy([(0, FAR), (-FAR, 0)]), [(-FAR, FAR)])
        self.assertEqual(tidy([(GREAT, 3 * GREAT), (0, GREAT - 1)]), [(0, GREAT - 1), (GREAT, 3 * GREAT)])
        self.assertEqual(tidy([(FAR, -FAR)]), [])

    def test_two_hundred_spans(self):
        rows = [(at * GREAT, at * GREAT + GREAT - at % 2) for at in range(200)]
        wanted = [(at * GREAT, (at + 2) * GREAT - 1) for at in range(0, 200, 2)]
        self.assertEqual(tidy(rows[::-1]), wanted)


class Asked(SoonCase):
    """holds, length, clipped, counted and reach."""

    def test_small_sets_day_by_day(self):
        for members, rows in SMALL:
            self.assertEqual(length(rows), len(members))
            for day in range(-5, 6):
                self.assertIs(holds(rows, day), day in members, (rows, day))

    def test_small_sets_between_all_bounds(self):
        for members, rows in SMALL:
            for first, behind in itertools.product(range(-5, 6), repeat=2):
                within = set(range(first, behind))
                self.assertEqual(clipped(rows, first, behind), gathered(members & within), (rows, first, behind))
                self.assertEqual(counted(rows, first, behind), len(within - members), (rows, first, behind))

    def test_reach_over_small_sets(self):
        for members, rows in SMALL:
            for first in range(-5, 6):
                for many in range(5):
                    day = first
                    while len(set(range(first, day)) - members) < many:
                        day += 1
                    self.assertEqual(reach(rows, first, many), day, (rows, first, many))

    def test_no_days(self):
        self.assertIs(holds([], 0), False)
        self.assertEqual(length([]), 0)
        self.assertEqual(clipped([], -FAR, FAR), [])
        self.assertEqual(counted([], 3, 10), 7)
        self.assertEqual(reach([], 3, 7), 10)
        self.assertEqual(reach([], -3, 0), -3)

    def test_bounds_of_holds(self):
        rows = [(2, 5), (7, 8)]
        told = [day for day in range(10) if holds(rows, day)]
        self.assertEqual(told, [2, 3, 4, 7])

    def test_behind_that_is_no_greater_than_first(self):
        rows = [(0, 10)]
        for first, behind in [(5, 5), (5, 4), (5, -5), (FAR, -FAR), (20, 12)]:
            self.assertEqual(clipped(rows, first, behind), [])
            self.assertEqual(counted(rows, first, behind), 0)
            self.assertEqual(counted([], first, behind), 0)

    def test_reach_of_none_is_first_itself_in_a_hole_too(self):
        for first in range(-1, 12):
            self.assertEqual(reach([(0, 5), (6, 10)], first, 0), first)

    def test_reach_ends_ahead_of_a_hole_not_behind_it(self):
        self.assertEqual(reach([(5, 8)], 2, 3), 5)
        self.assertEqual(reach([(5, 8)], 2, 4), 9)
        self.assertEqual(reach([(5, 8)], 5, 1), 9)
        self.assertEqual(reach([(5, 8)], 6, 1), 9)
        self.assertEqual(reach([(5, 8)], 8, 1), 9)
        self.assertEqual(reach([(5, 8), (9, 11)], 0, 6), 9)
        self.assertEqual(reach([(5, 8), (9, 11)], 0, 7), 12)

    def test_long_spans(self):
        rows = [(-3 * GREAT, -GREAT), (0, GREAT), (2 * GREAT, FAR)]
        self.assertEqual(length(rows), FAR + GREAT)
        self.assertIs(holds(rows, FAR - 1), True)
        self.assertIs(holds(rows, FAR), False)
        self.assertIs(holds(rows, 2 * GREAT), True)
        self.assertIs(holds(rows, 2 * GREAT - 1), False)
        self.assertIs(holds(rows, -3 * GREAT), True)
        self.assertIs(holds(rows, -3 * GREAT - 1), False)
        self.assertEqual(clipped(rows, -2 * GREAT, 5), [(-2 * GREAT, -GREAT), (0, 5)])
        self.assertEqual(clipped(rows, -FAR, FAR), rows)
        self.assertEqual(clipped(rows, GREAT, 2 * GREAT), [])
        self.assertEqual(counted(rows, -FAR, FAR), FAR - 3 * GREAT + GREAT + GREAT)
        self.assertEqual(counted(rows, -2 * GREAT, 5), GREAT)
        self.assertEqual(counted([], -FAR, FAR), 2 * FAR)
        self.assertEqual(reach(rows, -3 * GREAT, 1), -GREAT + 1)
        self.assertEqual(reach(rows, -3 * GREAT, GREAT), 0)
        self.assertEqual(reach(rows, -3 * GREAT, GREAT + 1), GREAT + 1)
        self.assertEqual(reach(rows, -3 * GREAT, 2 * GREAT + 1), FAR + 1)

    def test_spans_of_a_thousand_million_days(self):
        rows = [(0, 10 ** 9), (2 * 10 ** 9, 4 * 10 ** 9)]
        self.assertEqual(length(rows), 3 * 10 ** 9)
        self.assertIs(holds(rows, 10 ** 9 - 1), True)
        self.assertIs(holds(rows, 10 ** 9), False)
        self.assertEqual(clipped(rows, 1, 3 * 10 ** 9), [(1, 10 ** 9), (2 * 10 ** 9, 3 * 10 ** 9)])
        self.assertEqual(counted(rows, 0, 5 * 10 ** 9), 2 * 10 ** 9)
        self.assertEqual(reach(rows, 0, 10 ** 9), 2 * 10 ** 9)
        self.assertEqual(reach(rows, 0, 10 ** 9 + 1), 4 * 10 ** 9 + 1)

    def test_reach_of_very_many(self):
        many = 10 ** 4000
        self.assertEqual(reach([], 0, many), many)
        self.assertEqual(reach([(-5, 5), (FAR - 1, FAR)], 0, many), many + 6)
        self.assertEqual(reach([(-FAR, FAR)], -FAR, many), many + FAR)
        self.assertEqual(reach([(-FAR, FAR)], FAR, many), many + FAR)

    def test_two_hundred_spans(self):
        rows = [(2 * at * GREAT, 2 * at * GREAT + GREAT) for at in range(200)]
        self.assertEqual(length(rows), 200 * GREAT)
        self.assertEqual(counted(rows, 0, 400 * GREAT), 200 * GREAT)
        self.assertEqual(reach(rows, 0, 199 * GREAT), 398 * GREAT)
        self.assertEqual(reach(rows, 0, 199 * GREAT + 1), 399 * GREAT + 1)
        self.assertEqual(clipped(rows, 1, 399 * GREAT - 1), [(1, GREAT), *rows[1:199], (398 * GREAT, 399 * GREAT - 1)])


class Together(SoonCase):
    """joined, common and without."""

    def told(self, one, other, either, both, rest):
        self.assertEqual(joined(one, other), either)
        self.assertEqual(joined(other, one), either)
        self.assertEqual(common(one, other), both)
        self.assertEqual(common(other, one), both)
        self.assertEqual(without(one, other), rest)

    def test_apart_and_touching(self):
        self.told([(0, 2)], [(5, 7)], [(0, 2), (5, 7)], [], [(0, 2)])
        self.told([(5, 7)], [(0, 2)], [(0, 2), (5, 7)], [], [(5, 7)])
        self.told([(0, 2)], [(2, 7)], [(0, 7)], [], [(0, 2)])
        self.told([(2, 7)], [(0, 2)], [(0, 7)], [], [(2, 7)])
        self.told([(0, 2), (4, 6)], [(2, 4)], [(0, 6)], [], [(0, 2), (4, 6)])

    def test_overlapping_and_within(self):
        self.told([(0, 5)], [(3, 8)], [(0, 8)], [(3, 5)], [(0, 3)])
        self.told([(3, 8)], [(0, 5)], [(0, 8)], [(3, 5)], [(5, 8)])
        self.told([(0, 9)], [(3, 5)], [(0, 9)], [(3, 5)], [(0, 3), (5, 9)])
        self.told([(3, 5)], [(0, 9)], [(0, 9)], [(3, 5)], [])
        self.told([(0, 9)], [(0, 5)], [(0, 9)], [(0, 5)], [(5, 9)])
        self.told([(0, 9)], [(5, 9)], [(0, 9)], [(5, 9)], [(0, 5)])
        self.told([(0, 4), (6, 9)], [(2, 7)], [(0, 9)], [(2, 4), (6, 7)], [(0, 2), (7, 9)])

    def test_the_same_and_without_days(self):
        rows = [(-4, -1), (0, 4), (6, 9)]
        self.told(rows, list(rows), rows, rows, [])
        self.told(rows, [], rows, [], rows)
        self.told([], rows, rows, [], [])
        self.told([], [], [], [], [])

    def test_all_small_sets(self):
        for (one, rows), (other, beside) in itertools.product(SMALL, repeat=2):
            for told, wanted in [
                (joined(rows, beside), one | other),
                (common(rows, beside), one & other),
                (without(rows, beside), one - other),
            ]:
                # The one list of [2], and so a set of days.
                self.assertEqual(told, gathered(wanted), (rows, beside))

    def test_long_spans(self):
        self.told(
            [(-FAR, 0), (GREAT, FAR)],
            [(-GREAT, 2 * GREAT)],
            [(-FAR, FAR)],
            [(-GREAT, 0), (GREAT, 2 * GREAT)],
            [(-FAR, -GREAT), (2 * GREAT, FAR)],
        )

    def test_two_hundred_spans(self):
        one = [(4 * at * GREAT, 4 * at * GREAT + 2 * GREAT) for at in range(200)]
        other = [(first + GREAT, behind + GREAT) for first, behind in one]
        self.told(
            one,
            other,
            [(first, first + 3 * GREAT) for first, _ in one],
            [(first + GREAT, first + 2 * GREAT) for first, _ in one],
            [(first, first + GREAT) for first, _ in one],
        )


class Kept(NothingKept, unittest.TestCase):
    CALLS = [
        (is_days, [[(0, 1), (3, 4)]]),
        (is_days, [[(3, 4), (0, 1), (1, 1)]]),
        (tidy, [[]]),
        (tidy, [[(0, 1), (3, 4)]]),
        (tidy, [[(3, 5), (0, 1), (4, 9), (2, 2), (1, 2)]]),
        (holds, [[(0, 1), (3, 4)], 3]),
        (length, [[(0, 1), (3, 4)]]),
        (joined, [[(0, 1), (3, 4)], [(1, 2)]]),
        (joined, [[(0, 1), (3, 4)], []]),
        (joined, [[], [(0, 1), (3, 4)]]),
        (common, [[(0, 5), (7, 9)], [(1, 8)]]),
        (common, [[(0, 5), (7, 9)], [(0, 5), (7, 9)]]),
        (common, [[], [(0, 5)]]),
        (without, [[(0, 5), (7, 9)], [(1, 8)]]),
        (without, [[(0, 5), (7, 9)], []]),
        (without, [[], [(0, 5)]]),
        (clipped, [[(0, 5), (7, 9)], 0, 9]),
        (clipped, [[(0, 5), (7, 9)], 1, 8]),
        (clipped, [[(0, 5)], 3, 3]),
        (counted, [[(0, 5), (7, 9)], 1, 8]),
        (reach, [[(0, 5), (7, 9)], 1, 8]),
    ]


if __name__ == "__main__":
    unittest.main()
