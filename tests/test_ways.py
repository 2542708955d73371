"""Ways over fields ([12])."""

import copy
import unittest

from interface import Methods
from longhold import ways
from longhold.course import Course
from longhold.ways import Way
from soon import SoonCase

INTERFACE = {
    "__init__": ["self", "over", "to", "walks", "bars", "terms"],
    "stands_on": ["self", "day"],
    "turns": ["self"],
    "standing": ["self", "behind"],
}
FAR = 100000


def field(owner, *grants):
    """The course of a field that goes from owner to owner: grants are pairs (day, taker)."""
    facts, ahead = [], owner
    for day, taker in grants:
        facts.append((day, "grant", 1, ahead, taker))
        ahead = taker
    return Course(owner, facts, {}, (1, 1, 1, 1, 1))


def made(walks, over=None, to=None, bars=None, gap=3, gain=5, rest=4):
    return Way(over or field(1), to or field(2), walks, bars or {}, (1, 1, gap, gain, rest))


class WayCase(SoonCase):
    def turns(self, way, *wanted):
        """Days on which it begins to stand and stands no more, in turn."""
        rows = [(day, at % 2 == 0) for at, day in enumerate(wanted)]
        self.assertEqual(way.turns(), rows)
        spans = list(zip(wanted[::2], wanted[1::2]))
        self.assertEqual(way.standing(FAR), spans)
        for day in range(60):
            self.assertIs(way.stands_on(day), any(first <= day < behind for first, behind in spans), day)


class Interface(Methods, unittest.TestCase):
    MODULE = ways
    CLASS = Way
    METHODS = INTERFACE

    def test_kinds(self):
        way = made([0, 4])
        self.assertIs(type(way.turns()), list)
        self.assertIs(type(way.turns()[0]), tuple)
        self.assertIs(way.turns()[0][1], True)
        self.assertIs(way.turns()[1][1], False)
        self.assertIs(way.stands_on(5), True)
        self.assertIs(way.stands_on(4), False)
        self.assertIs(type(way.standing(9)), list)
        self.assertIs(type(way.standing(9)[0]), tuple)


class Use(WayCase):
    def test_without_walks(self):
        self.turns(made([]))

    def test_every_day_of_use_counts_and_then_it_stands(self):
        self.turns(made([0, 1, 2, 3, 4]), 5, 9)
        self.turns(made([0, 1, 2, 3]), 5, 9)
        self.turns(made([7, 8, 10]), 12, 16)
        self.turns(made([0], gain=1), 1, 5)
        self.turns(made([0], gain=1, rest=1), 1, 2)

    def test_over_on_the_first_day_behind_the_last_walk_by_more_than_gap_days(self):
        # The days 0 to 3 are of use, day 4 would be over, but it is walked.
        self.turns(made([0, 4]), 5, 9)
        self.turns(made([0, 3]), 5, 9)
        # Walked a day too late: another use begins, and the days of the one ahead are gone.
        self.turns(made([0, 5]))
        self.turns(made([0, 5, 9]), 10, 14)
        self.turns(made([0, 5, 8], gain=8), )
        self.turns(made([0, 2, 4], gap=1, gain=6), 6, 10)
        self.turns(made([0, 2, 5], gap=1, gain=6))

    def test_it_stands_also_on_the_day_on_which_the_use_would_be_over(self):
        self.turns(made([0], gain=4), 4, 8)
        self.turns(made([0], gain=5))
        self.turns(made([0], gap=1, gain=2), 2, 6)
        self.turns(made([0], gap=1, gain=3))

    def test_a_use_that_is_over_counts_no_more(self):
        self.turns(made([0, 20, 24]), 25, 29)
        self.turns(made([0, 20, 21]), 25, 29)

    def test_days_barred_for_the_owner_of_the_field_over_which_it_leads(self):
        self.turns(made([0, 3], bars={1: [(0, 1)]}), 6, 10)
        self.turns(made([0, 3], bars={1: [(2, 3)]}), 6, 10)
        self.turns(made([0, 3], bars={1: [(4, 5)]}), 6, 10)
        self.turns(made([0, 3], bars={1: [(5, 6)]}), 5, 9)
        # Barred on too many days: the use is over all the same.
        self.turns(made([0, 3], bars={1: [(2, 5)]}))
        self.turns(made([0, 3], bars={1: [(2, 4)]}), 7, 11)
        self.turns(made([0, 4, 8], bars={1: [(1, 5)]}), 9, 13)

    def test_barred_days_of_the_other_owner_are_nothing_to_the_use(self):
        self.turns(made([0, 4], bars={2: [(0, 5)]}), 5, 9)
        self.turns(made([0, 4], bars={3: [(0, 50)]}), 5, 9)

    def test_the_owner_of_the_day(self):
        # Field 1 goes to folk 3 on day 2, who is barred on the days 0 to 2.
        self.turns(made([0, 4], over=field(1, (2, 3)), bars={3: [(0, 3)]}), 6, 10)
        self.turns(made([0, 4], over=field(1, (2, 3)), bars={1: [(2, 9)]}), 5, 9)

    def test_fields_that_nobody_owns(self):
        self.turns(made([0, 4], over=field(0), to=field(0)), 5, 9)
        self.turns(made([0, 4], over=field(0)), 5, 9)
        self.turns(made([0, 4], to=field(0)), 5, 9)


class Rest(WayCase):
    def test_a_walk_sets_the_days_of_rest_to_none(self):
        self.turns(made([0, 4, 5]), 5, 10)
        self.turns(made([0, 4, 8]), 5, 13)
        self.turns(made([0, 4, 6, 8, 12]), 5, 17)

    def test_a_walk_on_the_day_on_which_it_stands_no_more_begins_a_use(self):
        self.turns(made([0, 4, 9, 13]), 5, 9, 14, 18)
        self.turns(made([0, 4, 9]), 5, 9)
        self.turns(made([0, 4, 9], gain=4), 4, 9, 13, 17)
        self.turns(made([0, 1, 2], gain=1, rest=1), 1, 4)
        self.turns(made([0, 2, 4], gain=1, rest=1), 1, 2, 3, 4, 5, 6)
        self.turns(made([0, 3], gain=1, rest=1), 1, 2, 4, 5)

    def test_behind_its_standing_no_use_is_left(self):
        # Had the use of the days ahead gone on, the walk on day 9 would make it stand at once.
        self.turns(made([0, 4, 9], gap=30), 5, 9, 14, 18)

    def test_days_barred_for_the_owner_of_the_field_for_whose_sake_it_is(self):
        self.turns(made([0, 4], bars={2: [(5, 6)]}), 5, 10)
        self.turns(made([0, 4], bars={2: [(8, 9)]}), 5, 10)
        self.turns(made([0, 4], bars={2: [(9, 99)]}), 5, 9)
        self.turns(made([0, 4], bars={2: [(7, 10000)]}), 5, 10002)
        self.turns(made([0, 4, 8], bars={2: [(6, 9)]}), 5, 13)

    def test_barred_days_of_the_other_owner_are_nothing_to_the_rest(self):
        self.turns(made([0, 4], bars={1: [(5, 50)]}), 5, 9)
        self.turns(made([0, 4], bars={3: [(0, 50)]}), 5, 9)

    def test_the_owner_of_the_day(self):
        self.turns(made([0, 4], to=field(2, (6, 3)), bars={2: [(5, 50)]}), 5, 10)
        self.turns(made([0, 4], to=field(2, (6, 3)), bars={3: [(0, 20)]}), 5, 23)


class Sleep(WayCase):
    def test_fields_of_one_owner(self):
        self.turns(made([0, 1, 2, 3, 4, 5, 6], to=field(1)))

    def test_it_does_not_stand_and_comes_back_only_by_a_new_use(self):
        self.turns(made([0, 4], to=field(2, (7, 1))), 5, 7)
        self.turns(made([0, 4], to=field(2, (7, 1), (8, 2))), 5, 7)
        self.turns(made([0, 4], over=field(1, (7, 2), (8, 1))), 5, 7)
        # Walked on the day of sleep: nothing; and on the days behind: a new use.
        self.turns(made([0, 4, 7], to=field(2, (7, 1), (8, 2))), 5, 7)
        self.turns(made([0, 4, 8, 12], to=field(2, (7, 1), (8, 2))), 5, 7, 13, 17)

    def test_no_use_is_left_from_before(self):
        self.turns(made([0, 4], to=field(2, (2, 1), (3, 2))))
        self.turns(made([0, 4, 8], to=field(2, (2, 1), (3, 2))), 9, 13)
        self.turns(made([0, 1, 2, 3], to=field(2, (2, 1), (3, 2)), gain=2), 5, 9)

    def test_on_the_day_on_which_it_would_begin_to_stand(self):
        self.turns(made([0, 4], to=field(2, (5, 1))))
        self.turns(made([0, 4], to=field(2, (6, 1))), 5, 6)
        self.turns(made([0, 4], to=field(2, (5, 1), (6, 2))))

    def test_on_the_day_on_which_it_would_stand_no_more(self):
        self.turns(made([0, 4], to=field(2, (9, 1))), 5, 9)
        self.turns(made([0, 4], to=field(2, (8, 1))), 5, 8)
        self.turns(made([0, 4], to=field(2, (10, 1))), 5, 9)

    def test_two_fields_that_go_to_a_third_one(self):
        self.turns(made([0, 4], over=field(1, (6, 3)), to=field(2, (7, 3))), 5, 7)
        self.turns(made([0, 4], over=field(1, (3, 3)), to=field(2, (3, 4))), 5, 9)

    def test_owners_are_those_that_stand_on_the_day_behind_its_facts(self):
        # On day 2 the other field goes to folk 5 and on to folk 3: both have one owner only within the day.
        within = Course(2, [(2, "grant", 1, 2, 5), (2, "grant", 1, 5, 3)], {}, (1, 1, 1, 1, 1))
        self.turns(made([0, 4], over=field(5), to=within), 5, 9)
        behind = Course(2, [(6, "grant", 1, 2, 3), (6, "grant", 1, 3, 5)], {}, (1, 1, 1, 1, 1))
        self.turns(made([0, 4], over=field(5), to=behind), 5, 6)

    def test_by_a_ripening(self):
        # Folk 1 holds the other field from day 1 on, and becomes its owner on day 7.
        ripe = Course(2, [(1, "enter", 1, 1)], {}, (6, 6, 1, 1, 1))
        self.turns(made([0, 4], to=ripe), 5, 7)
        self.assertEqual(made([0, 4], over=ripe, to=field(1)).turns(), [(5, True), (7, False)])

    def test_from_day_nought_on(self):
        self.turns(made([0, 1, 5], to=field(2, (0, 1), (1, 2))), 6, 10)
        self.turns(made([0, 4], to=field(1, (0, 2))), 5, 9)


class Standing(WayCase):
    def test_days_ahead_of_behind(self):
        way = made([0, 4, 9, 13])
        self.turns(way, 5, 9, 14, 18)
        for behind, wanted in [
            (0, []), (5, []), (6, [(5, 6)]), (8, [(5, 8)]), (9, [(5, 9)]), (14, [(5, 9)]), (15, [(5, 9), (14, 15)]),
            (18, [(5, 9), (14, 18)]), (FAR, [(5, 9), (14, 18)]),
        ]:
            self.assertEqual(way.standing(behind), wanted)

    def test_far_days(self):
        self.turns(made([9995, 9999], bars={2: [(0, 10000)]}, rest=999), 10000, 10999)
        way = made([9995, 9999], rest=999)
        self.assertEqual(way.turns(), [(10000, True), (10999, False)])
        self.assertIs(way.stands_on(10998), True)
        self.assertIs(way.stands_on(10999), False)
        self.assertIs(way.stands_on(FAR), False)

    def test_long_terms(self):
        self.turns(made([0], gap=999, gain=999, rest=999), 999, 1998)
        self.turns(made([0, 1000], gap=999, gain=999, rest=1), 999, 1000, 1999, 2000)
        bars = {1: [(10, 500)], 2: [(1500, 2500)]}
        self.turns(made([0, 1000], bars=bars, gap=999, gain=999, rest=999), 1489, 3488)

    def test_many_walks_changes_and_holes(self):
        over = field(1, *((50 * at, 3 - at % 2 * 2) for at in range(200)))
        bars = {one: [(50 * at, 50 * at + 20) for at in range(200)] for one in (1, 2, 3)}
        way = made([at for at in range(10000) if at % 50 != 7], over=over, bars=bars)
        self.assertEqual(way.turns(), [(25, True), (10004, False)])
        way = made(list(range(0, 10000, 50)), over=over, bars=bars, gap=40, gain=10, rest=10)
        self.assertEqual(way.standing(FAR), [(50 * at + 30, 50 * at + 40) for at in range(200)])


class Kept(unittest.TestCase):
    """[1]"""

    def told(self, way):
        # A copy, lest it be changed along with what is held against it.
        return copy.deepcopy((way.turns(), way.standing(100), [way.stands_on(day) for day in range(100)]))

    def test_a_way_stays_as_it_is_when_what_was_handed_in_is_changed(self):
        walks, bars = [0, 4, 20, 24], {1: [(1, 2)], 2: [(7, 9)]}
        way = made(walks, bars=bars)
        ahead = self.told(way)
        self.assertEqual((walks, bars), ([0, 4, 20, 24], {1: [(1, 2)], 2: [(7, 9)]}))
        walks.append(28)
        bars[1].append((3, 50))
        bars[2].clear()
        bars[3] = [(1, 2)]
        self.assertEqual(self.told(way), ahead)

    def test_told_lists_are_the_askers_own(self):
        way = made([0, 4, 20, 24])
        ahead = self.told(way)
        for rows in (way.turns(), way.standing(100)):
            self.assertTrue(rows)
            rows.append(None)
            rows.reverse()
        self.assertEqual(self.told(way), ahead)

    def test_courses_that_were_handed_in_are_as_they_were(self):
        over, to = field(1, (3, 2), (5, 1)), field(2, (7, 1))
        ahead = over.stands(), to.stands()
        made([0, 4], over=over, to=to)
        self.assertEqual((over.stands(), to.stands()), ahead)


if __name__ == "__main__":
    unittest.main()
