"""The course of a field ([4] to [11])."""

import copy
import unittest

from interface import Methods
from longhold import course
from longhold.course import Course
from longhold.days import length
from soon import SoonCase

INTERFACE = {
    "__init__": ["self", "owner", "facts", "bars", "terms"],
    "stands": ["self"],
    "ripenings": ["self"],
    "owner_on": ["self", "day"],
    "holder_on": ["self", "day"],
    "counts": ["self", "day"],
    "lacks": ["self", "day"],
    "fruits": ["self", "day"],
    "owned": ["self", "one", "behind"],
}

# Short 3, long 6; the others are for ways.
TERMS = (3, 6, 1, 1, 1)
# Behind all that happens here.
FAR = 100000


def made(owner, *facts, bars=None, terms=TERMS):
    """The course of field 1 by facts that are written without the field, in any order."""
    told = sorted((fact[0], fact[1], 1, *fact[2:]) for fact in facts)
    return Course(owner, told, bars or {}, terms)


class CourseCase(SoonCase):
    def stands(self, one, *rows):
        """Rows (day, owner, holder), or (day, owner, holder, since, good) where there is a run."""
        wanted = [row if len(row) == 5 else (*row, -1, False) for row in rows]
        self.assertEqual(one.stands(), wanted)


class Interface(Methods, unittest.TestCase):
    MODULE = course
    CLASS = Course
    METHODS = INTERFACE

    def test_kinds(self):
        one = made(1, (2, "enter", 2))
        self.assertIs(type(one.stands()), list)
        self.assertIs(type(one.stands()[0]), tuple)
        self.assertIs(one.stands()[0][4], False)
        self.assertIs(type(one.ripenings()), list)
        self.assertIs(type(one.ripenings()[0]), tuple)
        self.assertIs(type(one.ripenings()[0][2]), list)
        self.assertIs(type(one.owned(1, 5)), list)
        self.assertIs(made(1, (1, "grant", 3, 2), (2, "enter", 2)).stands()[1][4], True)


class First(CourseCase):
    """[6]"""

    def test_a_told_owner_or_nobody_and_nobody_holds(self):
        for owner in (0, 1, 999):
            one = made(owner)
            self.stands(one, (0, owner, 0))
            self.assertEqual(one.ripenings(), [])
            for day in (0, 1, FAR):
                self.assertEqual((one.owner_on(day), one.holder_on(day)), (owner, 0))
                self.assertIsNone(one.counts(day))
                self.assertIsNone(one.lacks(day))
                self.assertEqual(one.fruits(day), owner)
            self.assertEqual(one.owned(owner, 10), [(0, 10)])


class Runs(CourseCase):
    """[7]"""

    def test_the_owner_has_no_run(self):
        one = made(1, (2, "enter", 1))
        self.stands(one, (0, 1, 0), (2, 1, 1))
        self.assertIsNone(one.counts(5))
        self.assertEqual(one.ripenings(), [])

    def test_a_run_without_a_paper_becomes_ripe_by_the_long_term(self):
        one = made(1, (2, "enter", 2))
        self.stands(one, (0, 1, 0), (2, 1, 2, 2, False), (8, 2, 2))
        self.assertEqual(one.ripenings(), [(8, 2, [(2, 8)])])
        self.assertEqual([one.counts(day) for day in range(10)], [None, None, 1, 2, 3, 4, 5, 6, None, None])
        self.assertEqual([one.lacks(day) for day in range(10)], [None, None, 5, 4, 3, 2, 1, 0, None, None])

    def test_a_run_with_a_paper_becomes_ripe_by_the_short_term(self):
        one = made(1, (1, "grant", 3, 2), (2, "enter", 2))
        self.stands(one, (0, 1, 0), (2, 1, 2, 2, True), (5, 2, 2))
        self.assertEqual(one.ripenings(), [(5, 2, [(2, 5)])])
        self.assertEqual([one.counts(day) for day in range(6)], [None, None, 1, 2, 3, None])
        self.assertEqual([one.lacks(day) for day in range(6)], [None, None, 2, 1, 0, None])

    def test_terms_at_their_bounds(self):
        one = made(1, (0, "enter", 2), terms=(1, 1, 1, 1, 1))
        self.stands(one, (0, 1, 2, 0, False), (1, 2, 2))
        one = made(1, (0, "enter", 2), terms=(1, 999, 1, 1, 1))
        self.stands(one, (0, 1, 2, 0, False), (999, 2, 2))
        self.assertEqual(one.lacks(0), 998)
        one = made(1, (0, "grant", 3, 2), (1, "enter", 2), terms=(999, 999, 1, 1, 1))
        self.assertEqual(one.ripenings(), [(1000, 2, [(1, 1000)])])

    def test_a_field_that_nobody_owns(self):
        one = made(0, (2, "enter", 2), bars={1: [(0, 100)], 2: [(0, 100)]})
        self.stands(one, (0, 0, 0), (2, 0, 2, 2, False), (8, 2, 2))
        self.assertEqual(one.owned(0, 20), [(0, 8)])
        self.assertEqual(one.owned(2, 20), [(8, 20)])

    def test_barred_days_of_the_owner_at_the_bounds_of_the_run(self):
        # The run begins on day 2 and would else be ripe on day 8.
        for bar, ripe, days in [
            ((0, 2), 8, [(2, 8)]),
            ((0, 3), 9, [(3, 9)]),
            ((2, 3), 9, [(3, 9)]),
            ((1, 4), 10, [(4, 10)]),
            ((4, 6), 10, [(2, 4), (6, 10)]),
            ((6, 7), 9, [(2, 6), (7, 9)]),
            ((7, 8), 9, [(2, 7), (8, 9)]),
            ((7, 20), 21, [(2, 7), (20, 21)]),
            ((8, 20), 8, [(2, 8)]),
            ((2, 10000), 10006, [(10000, 10006)]),
        ]:
            with self.subTest(bar):
                one = made(1, (2, "enter", 2), bars={1: [bar]})
                self.assertEqual(one.ripenings(), [(ripe, 2, days)])
                self.stands(one, (0, 1, 0), (2, 1, 2, 2, False), (ripe, 2, 2))
                for day in range(2, min(ripe, 40)):
                    counted = len([at for at in range(2, day + 1) if not bar[0] <= at < bar[1]])
                    self.assertEqual((one.counts(day), one.lacks(day)), (counted, 6 - counted))

    def test_barred_days_of_others_are_none_of_its_own(self):
        one = made(1, (2, "enter", 2), bars={2: [(0, 100)], 3: [(0, 100)]})
        self.assertEqual(one.ripenings(), [(8, 2, [(2, 8)])])

    def test_the_owner_behind_the_facts_of_a_day_is_the_one_who_may_be_barred_on_it(self):
        one = made(1, (2, "enter", 2), (4, "grant", 1, 3), bars={1: [(4, 100)]})
        self.assertEqual(one.ripenings(), [(8, 2, [(2, 8)])])
        one = made(1, (2, "enter", 2), (4, "grant", 1, 3), bars={3: [(0, 6)]})
        self.assertEqual(one.ripenings(), [(10, 2, [(2, 4), (6, 10)])])
        self.assertEqual([one.counts(day) for day in range(2, 10)], [1, 2, 2, 2, 3, 4, 5, 6])

    def test_ripe_at_the_start_of_a_day_ahead_of_its_facts(self):
        start = [(0, 1, 0), (2, 1, 2, 2, False)]
        ahead = (2, "enter", 2)
        for fact, *rows in [
            ((8, "leave"), (8, 2, 0)),
            ((8, "enter", 3), (8, 2, 3, 8, False), (14, 3, 3)),
            ((8, "enter", 1), (8, 2, 1, 8, False), (14, 1, 1)),
            ((8, "hand", 3), (8, 2, 3, 8, False), (14, 3, 3)),
            ((8, "hand", 1), (8, 2, 1, 8, False), (14, 1, 1)),
            ((8, "yes"), (8, 2, 2)),
            ((8, "grant", 1, 3), (8, 2, 2)),
            ((8, "grant", 2, 3), (8, 3, 2, 8, False), (14, 2, 2)),
        ]:
            with self.subTest(fact):
                one = made(1, ahead, fact)
                self.stands(one, *start, *rows)
                self.assertEqual(one.ripenings()[0], (8, 2, [(2, 8)]))

    def test_facts_of_the_day_ahead_of_the_ripening_come_in_time(self):
        for fact, *rows in [
            ((7, "leave"), (7, 1, 0)),
            ((7, "yes"), (7, 1, 2, 7, False), (13, 2, 2)),
            ((7, "hand", 1), (7, 1, 1)),
            ((7, "grant", 1, 2), (7, 2, 2)),
        ]:
            with self.subTest(fact):
                self.stands(made(1, (2, "enter", 2), fact), (0, 1, 0), (2, 1, 2, 2, False), *rows)

    def test_ripe_between_facts_and_behind_all_facts(self):
        one = made(1, (0, "enter", 2), (9, "enter", 3), (9000, "grant", 3, 4), terms=(3, 900, 1, 1, 1))
        self.stands(one, (0, 1, 2, 0, False), (9, 1, 3, 9, False), (909, 3, 3), (9000, 4, 3, 9000, False),
                    (9900, 3, 3))
        one = made(1, (9999, "enter", 2), bars={1: [(9999, 10000)]}, terms=(3, 999, 1, 1, 1))
        self.assertEqual(one.ripenings(), [(10999, 2, [(10000, 10999)])])
        self.assertEqual((one.owner_on(10998), one.owner_on(10999), one.owner_on(FAR)), (1, 2, 2))


class Order(CourseCase):
    """Facts of one day happen in their order ([4])."""

    def test_enter_ahead_of_grant(self):
        # The paper comes too late for the run that has begun, though on the same day.
        one = made(1, (2, "enter", 2), (2, "grant", 3, 2))
        self.stands(one, (0, 1, 0), (2, 1, 2, 2, False), (8, 2, 2))

    def test_grant_ahead_of_hand(self):
        one = made(1, (1, "enter", 1), (2, "hand", 2), (2, "grant", 3, 2))
        self.stands(one, (0, 1, 0), (1, 1, 1), (2, 1, 2, 2, True), (5, 2, 2))

    def test_enter_ahead_of_leave(self):
        self.stands(made(1, (2, "leave"), (2, "enter", 2)), (0, 1, 0))

    def test_hand_ahead_of_leave(self):
        one = made(1, (1, "enter", 1), (2, "leave"), (2, "hand", 2))
        self.stands(one, (0, 1, 0), (1, 1, 1), (2, 1, 0))

    def test_fall_ahead_of_sue_ahead_of_win(self):
        one = made(1, (2, "enter", 2), (3, "win"), (3, "sue", 1), (3, "fall"))
        self.stands(one, (0, 1, 0), (2, 1, 2, 2, False), (3, 1, 0))

    def test_win_ahead_of_yes(self):
        one = made(1, (2, "enter", 2), (3, "sue", 1), (4, "yes"), (4, "win"))
        self.stands(one, (0, 1, 0), (2, 1, 2, 2, False), (4, 1, 0))

    def test_enters_of_one_day_by_their_numbers(self):
        one = made(1, (2, "enter", 9), (2, "enter", 10), (2, "enter", 2))
        self.stands(one, (0, 1, 0), (2, 1, 10, 2, False), (8, 10, 10))

    def test_grants_of_one_day_by_their_numbers(self):
        one = made(1, (2, "grant", 2, 3), (2, "grant", 1, 2))
        self.stands(one, (0, 1, 0), (2, 3, 0))
        one = made(2, (2, "grant", 1, 2), (2, "grant", 2, 1))
        self.stands(one, (0, 2, 0), (2, 1, 0))


class Grants(CourseCase):
    def test_by_the_owner_of_a_field_that_nobody_holds(self):
        self.stands(made(1, (2, "grant", 1, 3)), (0, 1, 0), (2, 3, 0))

    def test_by_one_who_does_not_own_it(self):
        self.stands(made(1, (2, "grant", 2, 3)), (0, 1, 0))
        self.stands(made(0, (2, "grant", 2, 3)), (0, 0, 0))

    def test_the_holder_becomes_the_owner(self):
        one = made(1, (2, "enter", 2), (4, "grant", 1, 2))
        self.stands(one, (0, 1, 0), (2, 1, 2, 2, False), (4, 2, 2))
        self.assertEqual(one.ripenings(), [])

    def test_the_holder_was_the_owner_and_is_no_more(self):
        one = made(1, (2, "enter", 1), (4, "grant", 1, 3))
        self.stands(one, (0, 1, 0), (2, 1, 1), (4, 3, 1, 4, False), (10, 1, 1))
        one = made(1, (1, "grant", 2, 1), (2, "enter", 1), (4, "grant", 1, 3))
        self.stands(one, (0, 1, 0), (2, 1, 1), (4, 3, 1, 4, True), (7, 1, 1))

    def test_else_the_run_goes_on_as_it_is(self):
        one = made(1, (2, "enter", 2), (4, "grant", 1, 3))
        self.stands(one, (0, 1, 0), (2, 1, 2, 2, False), (4, 3, 2, 2, False), (8, 2, 2))
        self.assertEqual(one.ripenings(), [(8, 2, [(2, 8)])])
        # A paper that comes when the run has begun makes it no better, but a later run.
        one = made(1, (2, "enter", 2), (4, "grant", 3, 2), (6, "leave"), (7, "enter", 2))
        self.stands(one, (0, 1, 0), (2, 1, 2, 2, False), (6, 1, 0), (7, 1, 2, 7, True), (10, 2, 2))

    def test_a_grant_by_the_owner_is_no_paper(self):
        one = made(1, (1, "grant", 1, 2), (2, "grant", 2, 1), (3, "enter", 2))
        self.stands(one, (0, 1, 0), (1, 2, 0), (2, 1, 0), (3, 1, 2, 3, False), (9, 2, 2))

    def test_a_paper_is_kept(self):
        # By a holding that becomes ripe, by leaving, and by being the owner in the meantime.
        one = made(1, (0, "grant", 3, 2), (1, "enter", 2), (5, "leave"), (6, "grant", 2, 4), (7, "enter", 2))
        self.stands(one, (0, 1, 0), (1, 1, 2, 1, True), (4, 2, 2), (5, 2, 0), (6, 4, 0), (7, 4, 2, 7, True), (10, 2, 2))

    def test_a_paper_for_the_owner_and_by_the_holder(self):
        one = made(1, (0, "grant", 3, 1), (1, "grant", 1, 2), (2, "enter", 1))
        self.stands(one, (0, 1, 0), (1, 2, 0), (2, 2, 1, 2, True), (5, 1, 1))
        one = made(1, (0, "enter", 2), (1, "grant", 2, 3), (2, "enter", 3))
        self.stands(one, (0, 1, 2, 0, False), (2, 1, 3, 2, True), (5, 3, 3))

    def test_a_paper_is_of_the_taker_alone(self):
        one = made(1, (0, "grant", 3, 2), (1, "enter", 3))
        self.stands(one, (0, 1, 0), (1, 1, 3, 1, False), (7, 3, 3))


class Enters(CourseCase):
    def test_one_who_holds_already_does_nothing(self):
        one = made(1, (2, "enter", 2), (4, "enter", 2))
        self.stands(one, (0, 1, 0), (2, 1, 2, 2, False), (8, 2, 2))
        # Not even where there is a paper by then.
        one = made(1, (2, "enter", 2), (3, "grant", 3, 2), (4, "enter", 2))
        self.stands(one, (0, 1, 0), (2, 1, 2, 2, False), (8, 2, 2))
        self.stands(made(1, (2, "enter", 1), (4, "enter", 1)), (0, 1, 0), (2, 1, 1))

    def test_whoever_held_is_put_out(self):
        one = made(1, (2, "enter", 2), (4, "enter", 3), (6, "enter", 2))
        self.stands(one, (0, 1, 0), (2, 1, 2, 2, False), (4, 1, 3, 4, False), (6, 1, 2, 6, False), (12, 2, 2))
        self.assertEqual(one.ripenings(), [(12, 2, [(6, 12)])])

    def test_the_owner_puts_out_and_is_put_out(self):
        one = made(1, (2, "enter", 2), (4, "enter", 1), (6, "enter", 3))
        self.stands(one, (0, 1, 0), (2, 1, 2, 2, False), (4, 1, 1), (6, 1, 3, 6, False), (12, 3, 3))


class Leaves(CourseCase):
    def test_nobody_holds_and_the_run_is_over(self):
        one = made(1, (2, "enter", 2), (4, "leave"))
        self.stands(one, (0, 1, 0), (2, 1, 2, 2, False), (4, 1, 0))
        self.assertEqual(one.ripenings(), [])
        self.assertIsNone(one.counts(4))

    def test_the_days_of_a_run_that_is_over_are_gone(self):
        one = made(1, (2, "enter", 2), (4, "leave"), (4, "grant", 3, 9), (5, "enter", 2))
        self.stands(one, (0, 1, 0), (2, 1, 2, 2, False), (4, 1, 0), (5, 1, 2, 5, False), (11, 2, 2))

    def test_the_owner_leaves_and_nobody_leaves(self):
        self.stands(made(1, (2, "enter", 1), (4, "leave")), (0, 1, 0), (2, 1, 1), (4, 1, 0))
        self.stands(made(1, (4, "leave")), (0, 1, 0))


class Hands(CourseCase):
    def test_nothing_where_nobody_holds_or_one_holds_already(self):
        self.stands(made(1, (4, "hand", 2)), (0, 1, 0))
        self.stands(made(0, (4, "hand", 2)), (0, 0, 0))
        # A good run of one without a paper, handed on to that one: it stays as it is.
        one = made(1, (2, "enter", 2), (4, "hand", 2))
        self.stands(one, (0, 1, 0), (2, 1, 2, 2, False), (8, 2, 2))
        self.stands(made(1, (2, "enter", 1), (4, "hand", 1)), (0, 1, 0), (2, 1, 1))

    def test_the_owner_takes_it_back(self):
        one = made(1, (2, "enter", 2), (4, "hand", 1))
        self.stands(one, (0, 1, 0), (2, 1, 2, 2, False), (4, 1, 1))
        self.assertEqual(one.ripenings(), [])

    def test_by_the_owner(self):
        one = made(1, (2, "enter", 1), (4, "hand", 2))
        self.stands(one, (0, 1, 0), (2, 1, 1), (4, 1, 2, 4, False), (10, 2, 2))
        one = made(1, (2, "enter", 1), (3, "grant", 3, 2), (4, "hand", 2))
        self.stands(one, (0, 1, 0), (2, 1, 1), (4, 1, 2, 4, True), (7, 2, 2))

    def test_within_a_run_its_days_and_its_since_go_on(self):
        one = made(1, (2, "enter", 2), (5, "hand", 3), (7, "hand", 4))
        self.stands(one, (0, 1, 0), (2, 1, 2, 2, False), (5, 1, 3, 2, False), (7, 1, 4, 2, False), (8, 4, 4))
        self.assertEqual(one.ripenings(), [(8, 4, [(2, 8)])])
        self.assertEqual([one.counts(day) for day in range(2, 8)], [1, 2, 3, 4, 5, 6])

    def test_good_and_handed_to_one_with_a_paper(self):
        one = made(1, (0, "grant", 9, 2), (0, "grant", 9, 3), (2, "enter", 2), (4, "hand", 3))
        self.stands(one, (0, 1, 0), (2, 1, 2, 2, True), (4, 1, 3, 2, True), (5, 3, 3))
        self.assertEqual(one.ripenings(), [(5, 3, [(2, 5)])])

    def test_good_and_handed_to_one_without(self):
        one = made(1, (0, "grant", 9, 2), (2, "enter", 2), (4, "hand", 3))
        self.stands(one, (0, 1, 0), (2, 1, 2, 2, True), (4, 1, 3, 2, False), (8, 3, 3))
        self.assertEqual([one.lacks(day) for day in range(2, 8)], [2, 1, 3, 2, 1, 0])

    def test_what_was_not_good_is_not_good_again(self):
        one = made(1, (0, "grant", 9, 2), (0, "grant", 9, 4), (2, "enter", 2), (3, "hand", 3), (4, "hand", 4))
        self.stands(one, (0, 1, 0), (2, 1, 2, 2, True), (3, 1, 3, 2, False), (4, 1, 4, 2, False), (8, 4, 4))

    def test_on_the_day_of_the_ripening_it_was_held_by_the_one_ahead(self):
        one = made(1, (2, "enter", 2), (8, "hand", 3))
        self.assertEqual(one.ripenings(), [(8, 2, [(2, 8)]), (14, 3, [(8, 14)])])


class Confessions(CourseCase):
    """yes"""

    def test_a_run_begins_anew_and_is_not_good(self):
        one = made(1, (2, "enter", 2), (5, "yes"))
        self.stands(one, (0, 1, 0), (2, 1, 2, 2, False), (5, 1, 2, 5, False), (11, 2, 2))
        self.assertEqual(one.ripenings(), [(11, 2, [(5, 11)])])
        one = made(1, (0, "grant", 9, 2), (2, "enter", 2), (4, "yes"))
        self.stands(one, (0, 1, 0), (2, 1, 2, 2, True), (4, 1, 2, 4, False), (10, 2, 2))
        self.assertEqual([one.counts(day) for day in range(2, 6)], [1, 2, 1, 2])

    def test_on_the_day_on_which_it_began(self):
        one = made(1, (0, "grant", 9, 2), (2, "enter", 2), (2, "yes"))
        self.stands(one, (0, 1, 0), (2, 1, 2, 2, False), (8, 2, 2))

    def test_nothing_without_a_run(self):
        self.stands(made(1, (2, "enter", 1), (5, "yes")), (0, 1, 0), (2, 1, 1))
        self.stands(made(1, (5, "yes")), (0, 1, 0))
        self.stands(made(0, (5, "yes")), (0, 0, 0))


class Suits(CourseCase):
    def test_a_suit_that_is_won(self):
        one = made(1, (2, "enter", 2), (4, "sue", 1), (30, "win"))
        self.stands(one, (0, 1, 0), (2, 1, 2, 2, False), (30, 1, 0))
        self.assertEqual(one.ripenings(), [])
        # The day of the suit does not count, nor does any up to the win.
        self.assertEqual([one.counts(day) for day in range(2, 7)], [1, 2, 2, 2, 2])
        self.assertEqual((one.counts(29), one.lacks(29), one.counts(30)), (2, 4, None))

    def test_a_suit_that_is_let_fall_is_as_if_it_had_never_been(self):
        for ends in [[(30, "fall")], [(5, "fall")], [(5, "fall"), (6, "win")], []]:
            with self.subTest(ends):
                one = made(1, (2, "enter", 2), (4, "sue", 1), *ends)
                self.stands(one, (0, 1, 0), (2, 1, 2, 2, False), (8, 2, 2))
                self.assertEqual([one.counts(day) for day in range(2, 8)], [1, 2, 3, 4, 5, 6])

    def test_an_end_ahead_of_the_suit_is_none_of_it(self):
        for ahead in [(3, "win"), (3, "fall"), (4, "fall")]:
            with self.subTest(ahead):
                one = made(1, (2, "enter", 2), ahead, (4, "sue", 1), (7, "win"))
                self.stands(one, (0, 1, 0), (2, 1, 2, 2, False), (7, 1, 0))
                one = made(1, (2, "enter", 2), ahead, (4, "sue", 1))
                self.stands(one, (0, 1, 0), (2, 1, 2, 2, False), (8, 2, 2))

    def test_by_another_than_the_owner(self):
        one = made(1, (2, "enter", 2), (4, "sue", 3), (5, "sue", 2), (7, "win"))
        self.stands(one, (0, 1, 0), (2, 1, 2, 2, False), (8, 2, 2))
        one = made(0, (2, "enter", 2), (4, "sue", 1), (7, "win"))
        self.stands(one, (0, 0, 0), (2, 0, 2, 2, False), (8, 2, 2))

    def test_without_a_run_when_it_begins(self):
        one = made(1, (1, "sue", 1), (2, "enter", 2), (7, "win"))
        self.stands(one, (0, 1, 0), (2, 1, 2, 2, False), (8, 2, 2))
        one = made(1, (1, "enter", 1), (2, "sue", 1), (3, "hand", 2), (4, "win"))
        self.stands(one, (0, 1, 0), (1, 1, 1), (3, 1, 2, 3, False), (9, 2, 2))

    def test_on_the_day_of_the_ripening_it_is_too_late(self):
        one = made(1, (2, "enter", 2), (8, "sue", 1), (9, "win"))
        self.stands(one, (0, 1, 0), (2, 1, 2, 2, False), (8, 2, 2))
        one = made(1, (2, "enter", 2), (7, "sue", 1), (9, "win"))
        self.stands(one, (0, 1, 0), (2, 1, 2, 2, False), (9, 1, 0))

    def test_a_second_suit_and_a_second_win(self):
        one = made(1, (2, "enter", 2), (4, "sue", 1), (5, "sue", 1), (6, "win"), (7, "enter", 3), (8, "win"))
        self.stands(one, (0, 1, 0), (2, 1, 2, 2, False), (6, 1, 0), (7, 1, 3, 7, False), (13, 3, 3))
        one = made(1, (2, "enter", 2), (4, "sue", 1), (6, "win"), (7, "enter", 3), (8, "sue", 1), (20, "win"))
        self.stands(one, (0, 1, 0), (2, 1, 2, 2, False), (6, 1, 0), (7, 1, 3, 7, False), (20, 1, 0))

    def test_a_win_without_a_suit_does_nothing(self):
        one = made(1, (2, "enter", 2), (4, "win"))
        self.stands(one, (0, 1, 0), (2, 1, 2, 2, False), (8, 2, 2))

    def test_a_win_without_a_run_leaves_the_holder(self):
        one = made(1, (2, "enter", 2), (4, "sue", 1), (5, "enter", 1), (6, "win"), (7, "hand", 3))
        self.stands(one, (0, 1, 0), (2, 1, 2, 2, False), (5, 1, 1), (7, 1, 3, 7, False), (13, 3, 3))
        one = made(1, (2, "enter", 2), (4, "sue", 1), (5, "grant", 1, 2), (6, "win"))
        self.stands(one, (0, 1, 0), (2, 1, 2, 2, False), (5, 2, 2))

    def test_the_field_is_frozen_for_runs_that_begin_meanwhile(self):
        one = made(1, (2, "enter", 2), (4, "sue", 1), (5, "enter", 3), (50, "win"))
        self.stands(one, (0, 1, 0), (2, 1, 2, 2, False), (5, 1, 3, 5, False), (50, 1, 0))
        self.assertEqual([one.counts(day) for day in (5, 6, 49)], [0, 0, 0])
        self.assertEqual(one.lacks(49), 6)
        one = made(1, (2, "enter", 2), (4, "sue", 1), (5, "yes"), (6, "hand", 4), (50, "win"))
        self.stands(one, (0, 1, 0), (2, 1, 2, 2, False), (5, 1, 2, 5, False), (6, 1, 4, 5, False), (50, 1, 0))

    def test_and_where_the_owner_is_another_one_meanwhile(self):
        one = made(1, (2, "enter", 2), (4, "sue", 1), (5, "grant", 1, 3), (50, "win"))
        self.stands(one, (0, 1, 0), (2, 1, 2, 2, False), (5, 3, 2, 2, False), (50, 3, 0))

    def test_behind_the_win_days_count_again(self):
        one = made(1, (2, "enter", 2), (4, "sue", 1), (6, "enter", 1), (7, "win"), (7, "yes"), (8, "enter", 2))
        self.assertEqual([one.counts(day) for day in range(2, 11)], [1, 2, 2, 2, None, None, 1, 2, 3])


class Stands(CourseCase):
    """[9]"""

    def test_day_nought_is_told_behind_its_facts(self):
        one = made(1, (0, "enter", 2), (0, "grant", 1, 3))
        self.stands(one, (0, 3, 2, 0, False), (6, 2, 2))

    def test_days_on_which_nothing_is_another(self):
        one = made(1, (2, "grant", 3, 4), (3, "leave"), (4, "win"), (5, "sue", 1), (6, "fall"), (7, "yes"))
        self.stands(one, (0, 1, 0))
        one = made(1, (2, "enter", 2), (2, "leave"), (3, "enter", 1), (4, "enter", 1))
        self.stands(one, (0, 1, 0), (3, 1, 1))

    def test_there_and_back_on_one_day(self):
        one = made(1, (2, "enter", 1), (5, "enter", 2), (5, "hand", 1))
        self.stands(one, (0, 1, 0), (2, 1, 1))
        one = made(1, (2, "enter", 2), (5, "grant", 1, 3), (5, "grant", 3, 1))
        self.stands(one, (0, 1, 0), (2, 1, 2, 2, False), (8, 2, 2))

    def test_only_one_of_the_four_is_another(self):
        one = made(1, (2, "enter", 2), (3, "grant", 1, 4), (4, "hand", 3), (5, "yes"))
        self.stands(one, (0, 1, 0), (2, 1, 2, 2, False), (3, 4, 2, 2, False), (4, 4, 3, 2, False),
                    (5, 4, 3, 5, False), (11, 3, 3))

    def test_a_run_that_begins_on_day_nought(self):
        one = made(1, (0, "enter", 2))
        self.stands(one, (0, 1, 2, 0, False), (6, 2, 2))
        self.assertEqual((one.counts(0), one.lacks(0), one.counts(5)), (1, 5, 6))
        one = made(1, (0, "grant", 3, 2), (0, "enter", 3), (0, "hand", 2))
        self.stands(one, (0, 1, 2, 0, False), (6, 2, 2))


class Ripenings(CourseCase):
    """[10]"""

    def test_several_in_order_of_days(self):
        one = made(1, (0, "enter", 2), (10, "enter", 3), (10, "grant", 9, 4), (20, "hand", 4), (30, "yes"))
        self.assertEqual(one.ripenings(), [(6, 2, [(0, 6)]), (16, 3, [(10, 16)]), (23, 4, [(20, 23)])])

    def test_as_many_days_as_the_term_whatever_lies_between(self):
        bars = {1: [(1, 3), (5, 6)], 4: [(8, 20)]}
        one = made(1, (0, "enter", 2), (6, "grant", 1, 4), (7, "hand", 3), bars=bars)
        self.assertEqual(one.ripenings(), [(21, 3, [(0, 1), (3, 5), (6, 8), (20, 21)])])
        self.assertEqual(length(one.ripenings()[0][2]), 6)


class Fruits(CourseCase):
    """[11]"""

    def fruits(self, one, *wanted):
        self.assertEqual([one.fruits(day) for day in range(len(wanted))], list(wanted))

    def test_of_the_owner(self):
        self.fruits(made(1), 1, 1)
        self.fruits(made(0), 0, 0)
        self.fruits(made(1, (1, "enter", 1)), 1, 1, 1)
        self.assertEqual(made(1).fruits(FAR), 1)

    def test_ahead_of_a_ripening_they_are_the_holders(self):
        self.fruits(made(1, (2, "enter", 2)), 1, 1, 2, 2, 2, 2, 2, 2, 2, 2)
        self.fruits(made(0, (2, "enter", 2)), 0, 0, 2, 2, 2, 2, 2, 2, 2, 2)

    def test_of_a_run_that_never_becomes_ripe(self):
        self.fruits(made(1, (2, "enter", 2), (7, "leave")), 1, 1, 1, 1, 1, 1, 1, 1)
        self.fruits(made(1, (2, "enter", 2), (7, "hand", 1)), 1, 1, 1, 1, 1, 1, 1, 1)
        self.fruits(made(1, (2, "enter", 2), (4, "grant", 1, 2)), 1, 1, 1, 1, 2, 2)
        self.fruits(made(0, (2, "enter", 2), (7, "leave")), 0, 0, 0, 0, 0, 0, 0, 0)
        self.fruits(made(1, (2, "enter", 2), (4, "sue", 1), (6, "win")), 1, 1, 1, 1, 1, 1, 1)

    def test_of_a_good_run_that_never_becomes_ripe(self):
        one = made(1, (0, "grant", 9, 2), (2, "enter", 2), (4, "leave"))
        self.fruits(one, 1, 1, 2, 2, 1, 1)
        one = made(1, (0, "grant", 9, 2), (2, "enter", 2), (4, "hand", 3), (6, "leave"))
        self.fruits(one, 1, 1, 2, 2, 1, 1, 1)

    def test_handed_on_in_the_meantime(self):
        one = made(1, (2, "enter", 2), (5, "hand", 3))
        self.fruits(one, 1, 1, 2, 2, 2, 3, 3, 3, 3)

    def test_a_run_begun_anew_is_another_one(self):
        one = made(1, (2, "enter", 2), (5, "yes"))
        self.fruits(one, 1, 1, 1, 1, 1, 2, 2, 2, 2, 2, 2, 2)
        one = made(1, (2, "enter", 2), (5, "enter", 3))
        self.fruits(one, 1, 1, 1, 1, 1, 3, 3, 3)
        one = made(1, (2, "enter", 2), (5, "leave"), (6, "enter", 2))
        self.fruits(one, 1, 1, 1, 1, 1, 1, 2, 2)

    def test_begun_anew_on_its_first_day(self):
        one = made(1, (2, "enter", 2), (2, "yes"))
        self.fruits(one, 1, 1, 2, 2)

    def test_where_the_owner_becomes_the_holder_of_anothers_field(self):
        one = made(1, (2, "enter", 1), (4, "grant", 1, 3))
        self.fruits(one, 1, 1, 1, 1, 1, 1, 1)
        one = made(1, (2, "enter", 1), (4, "grant", 1, 3), (7, "enter", 3))
        self.fruits(one, 1, 1, 1, 1, 3, 3, 3, 3)

    def test_on_the_day_of_the_ripening(self):
        one = made(1, (2, "enter", 2), (8, "leave"))
        self.fruits(one, 1, 1, 2, 2, 2, 2, 2, 2, 2)
        one = made(1, (2, "enter", 2), (8, "enter", 3), (9, "leave"))
        self.fruits(one, 1, 1, 2, 2, 2, 2, 2, 2, 2, 2)


class Owned(CourseCase):
    def test_days_ahead_of_behind(self):
        one = made(1, (2, "enter", 2), (10, "grant", 2, 1), (20, "enter", 1))
        self.stands(one, (0, 1, 0), (2, 1, 2, 2, False), (8, 2, 2), (10, 1, 2, 10, False), (16, 2, 2),
                    (20, 2, 1, 20, False), (26, 1, 1))
        self.assertEqual(one.owned(1, 100), [(0, 8), (10, 16), (26, 100)])
        self.assertEqual(one.owned(2, 100), [(8, 10), (16, 26)])
        for who, behind, wanted in [
            (1, 0, []), (1, 1, [(0, 1)]), (1, 8, [(0, 8)]), (1, 9, [(0, 8)]), (1, 10, [(0, 8)]),
            (1, 11, [(0, 8), (10, 11)]), (2, 8, []), (2, 9, [(8, 9)]), (2, 20, [(8, 10), (16, 20)]),
            (0, 100, []), (3, 100, []), (1, FAR, [(0, 8), (10, 16), (26, FAR)]),
        ]:
            self.assertEqual(one.owned(who, behind), wanted, (who, behind))

    def test_nobody(self):
        one = made(0, (5, "enter", 2))
        self.assertEqual(one.owned(0, 100), [(0, 11)])
        self.assertEqual(made(0).owned(0, FAR), [(0, FAR)])
        self.assertEqual(made(0).owned(0, 0), [])


class Many(SoonCase):
    """As many facts, as far days and as long terms as there may be."""

    def test_two_hundred_facts_over_all_days(self):
        facts = []
        for at in range(100):
            facts += [(100 * at, "enter", 2 + at % 2), (100 * at + 60, "grant", 2 + at % 2, 1)]
        bars = {one: [(50 * at, 50 * at + 20) for at in range(200)] for one in (1, 2, 3)}
        one = made(1, *facts, bars=bars, terms=(20, 40, 1, 1, 1))
        # Each holder becomes the owner behind 40 days that are not barred, 80 days behind the entering.
        self.assertEqual([row[:2] for row in one.ripenings()], [(100 * at + 80, 2 + at % 2) for at in range(100)])
        for day in range(0, FAR + 1, 7):
            told = (one.owner_on(day), one.holder_on(day), one.fruits(day), one.counts(day), one.lacks(day))
            self.assertEqual(told[3] is None, told[0] == told[1])
        self.assertEqual(len(one.stands()), 200)
        self.assertEqual(length(one.owned(1, FAR)) + length(one.owned(2, FAR)) + length(one.owned(3, FAR)), FAR)

    def test_a_long_term_over_many_holes(self):
        bars = {1: [(2 * at, 2 * at + 1) for at in range(200)] + [(1000, 10000)]}
        one = made(1, (0, "enter", 2), bars=bars, terms=(999, 999, 1, 1, 1))
        self.assertEqual(one.ripenings()[0][0], 10000 + 199)
        self.assertEqual(one.counts(999), 800)

    def test_two_hundred_facts_of_one_day(self):
        facts = [(5, "enter", one) for one in range(2, 102)] + [(5, "hand", one) for one in range(2, 102)]
        one = made(1, *facts)
        self.assertEqual(one.stands(), [(0, 1, 0, -1, False), (5, 1, 101, 5, False), (11, 101, 101, -1, False)])


class Kept(unittest.TestCase):
    """[1]"""

    FACTS = [(0, "grant", 1, 3, 2), (1, "enter", 1, 2), (3, "hand", 1, 4), (9, "grant", 1, 4, 2)]
    BARS = {1: [(2, 4), (5, 6)], 4: [(10, 20)]}

    def test_a_course_stays_as_it_is_when_what_was_handed_in_is_changed(self):
        facts, bars = list(self.FACTS), {one: list(days) for one, days in self.BARS.items()}
        one = Course(1, facts, bars, TERMS)
        self.assertEqual((facts, bars), (self.FACTS, self.BARS))
        ahead = self.told(one)
        facts.clear()
        bars[1].append((7, 90))
        bars[2] = bars.pop(4)
        self.assertEqual(self.told(one), ahead)
        self.assertEqual(self.told(Course(1, self.FACTS, self.BARS, TERMS)), ahead)

    def told(self, one):
        # A copy, lest it be changed along with what is held against it.
        return copy.deepcopy((one.stands(), one.ripenings(), one.owned(1, 50), [one.counts(day) for day in range(50)],
                              [one.fruits(day) for day in range(50)]))

    def test_told_lists_are_the_askers_own(self):
        one = Course(1, self.FACTS, self.BARS, TERMS)
        ahead = self.told(one)
        self.assertTrue(one.ripenings())
        for rows in (one.stands(), one.ripenings(), one.owned(1, 50), one.ripenings()[0][2]):
            rows.append(None)
            rows.reverse()
        for row in one.ripenings():
            row[2].clear()
        self.assertEqual(self.told(one), ahead)


if __name__ == "__main__":
    unittest.main()
