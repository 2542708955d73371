"""The book and its diary ([13], [14]), terms ([6]), and that all hangs on the facts that stand ([1])."""

import copy
import itertools
import unittest

import books
from interface import Methods
from longhold import book as module
from longhold.book import Book
from longhold.course import Course
from longhold.errors import BadFact, BadTerm, Full, LandError, NoFact, NoField, NoFolk, NoStand, Told
from longhold.roll import written
from longhold.ways import Way
from soon import SoonCase

INTERFACE = {
    "__init__": ["self", "terms"],
    "terms": ["self"],
    "add_folk": ["self"],
    "add_field": ["self", "owner"],
    "folk": ["self"],
    "fields": ["self"],
    "tell": ["self", "fact"],
    "strike": ["self", "number"],
    "facts": ["self"],
    "numbered": ["self", "number"],
    "deeds": ["self"],
    "known": ["self", "count"],
    "course": ["self", "field"],
    "course_then": ["self", "field", "count"],
    "way": ["self", "over", "to"],
    "claims": ["self", "day"],
    "twin": ["self"],
}

TERMS = (3, 6, 3, 5, 4)
FAR = 100000
# No text is made of it without an error of Python's own.
HUGE = 10 ** 5000


def made(folk=3, owners=(1, 2), facts=(), terms=TERMS):
    return books.made(terms, folk, owners, facts)


def all_of(book):
    """All that a book tells."""
    numbers = range(1, book.deeds() + 2)
    standing = {}
    for number in numbers:
        try:
            standing[number] = book.numbered(number)
        except NoFact:
            pass
    fields = range(1, len(book.fields()) + 1)
    # A copy, lest it be changed along with what is held against it.
    return copy.deepcopy((
        book.terms(), book.folk(), book.fields(), book.facts(), standing, book.deeds(), written(book),
        [book.known(count) for count in range(book.deeds() + 1)],
        [(book.course(field).stands(), book.course(field).ripenings()) for field in fields],
        [book.course_then(field, count).stands() for field in fields for count in range(book.deeds() + 1)],
        [book.way(over, to).turns() for over, to in itertools.permutations(fields, 2)],
        [book.claims(day) for day in range(30)],
    ))


class BookCase(SoonCase):
    def refused(self, error, book, name, *arguments):
        """That very refusal, and nothing changes by it."""
        ahead = all_of(book)
        with self.assertRaises(LandError) as caught:
            getattr(book, name)(*arguments)
        self.assertIs(type(caught.exception), error, arguments if HUGE not in arguments else name)
        self.assertEqual(all_of(book), ahead)


class Interface(Methods, unittest.TestCase):
    MODULE = module
    CLASS = Book
    METHODS = INTERFACE

    def test_kinds(self):
        book = made(facts=[(2, "enter", 1, 2), (0, "walk", 1, 2)])
        self.assertIs(type(book.terms()), tuple)
        self.assertIs(type(book.fields()), list)
        self.assertIs(type(book.facts()), list)
        self.assertIs(type(book.numbered(1)), tuple)
        self.assertIs(type(book.known(1)), list)
        self.assertIs(type(book.claims(0)), list)
        self.assertIs(type(book.claims(0)[0]), tuple)
        self.assertIsInstance(book.course(1), Course)
        self.assertIsInstance(book.course_then(1, 1), Course)
        self.assertIsInstance(book.way(1, 2), Way)
        self.assertIsInstance(book.twin(), Book)


class Terms(SoonCase):
    def test_those_that_are(self):
        for terms in [TERMS, (1, 1, 1, 1, 1), (999, 999, 999, 999, 999), (1, 999, 1, 999, 1), (5, 5, 9, 1, 2)]:
            self.assertEqual(Book(terms).terms(), terms)

    def test_out_of_bounds(self):
        for at in range(5):
            for number in (0, 1000, -1, HUGE, -HUGE):
                terms = [500] * 5
                terms[at] = number
                with self.assertRaises(BadTerm):
                    Book(tuple(terms))

    def test_short_greater_than_long(self):
        for terms in [(2, 1, 1, 1, 1), (999, 998, 1, 1, 1), (6, 5, 9, 9, 9)]:
            with self.assertRaises(BadTerm):
                Book(terms)


class FolkAndFields(BookCase):
    def test_a_new_book(self):
        book = Book(TERMS)
        self.assertEqual((book.folk(), book.fields(), book.facts(), book.deeds()), (0, [], [], 0))
        self.assertEqual((book.known(0), book.claims(0), book.claims(FAR)), ([], [], []))

    def test_numbers_as_they_come(self):
        book = Book(TERMS)
        self.assertEqual([book.add_field(0), book.add_folk(), book.add_folk(), book.add_field(2)], [1, 1, 2, 2])
        self.assertEqual((book.folk(), book.fields()), (2, [0, 2]))

    def test_forty_folk_and_twenty_fields(self):
        book = Book(TERMS)
        self.assertEqual([book.add_folk() for _ in range(40)], list(range(1, 41)))
        self.refused(Full, book, "add_folk")
        self.assertEqual([book.add_field(at + 21) for at in range(20)], list(range(1, 21)))
        for owner in (0, 1, 40):
            self.refused(Full, book, "add_field", owner)
        for owner in (41, -1, HUGE):
            self.refused(NoFolk, book, "add_field", owner)
        self.assertEqual((book.folk(), book.fields()), (40, list(range(21, 41))))
        self.assertEqual(book.tell((5, "grant", 20, 40, 1)), 1)

    def test_owners_that_the_book_has_not(self):
        book = made(folk=2)
        for owner in (3, 4, 999, 1000, -1, HUGE, -HUGE):
            self.refused(NoFolk, book, "add_field", owner)
        self.assertEqual(book.add_field(2), 3)
        self.refused(NoFolk, Book(TERMS), "add_field", 1)

    def test_none_of_these_is_a_deed(self):
        book = made(folk=5, owners=(1, 0, 5))
        self.assertEqual(book.deeds(), 0)


class Telling(BookCase):
    def test_numbers_from_one_on_that_never_come_again(self):
        book = made()
        self.assertEqual(book.tell((5, "enter", 1, 2)), 1)
        self.assertEqual(book.tell((3, "enter", 1, 3)), 2)
        self.assertEqual(book.strike(2), (3, "enter", 1, 3))
        self.assertEqual(book.tell((3, "enter", 1, 3)), 3)
        self.assertEqual(book.tell((4, "leave", 2)), 4)
        self.assertEqual(book.strike(1), (5, "enter", 1, 2))
        self.assertEqual(book.strike(4), (4, "leave", 2))
        self.assertEqual(book.tell((4, "leave", 2)), 5)
        self.assertEqual(book.tell((5, "enter", 1, 2)), 6)
        self.assertEqual([book.numbered(number) for number in (3, 5, 6)],
                         [(3, "enter", 1, 3), (4, "leave", 2), (5, "enter", 1, 2)])
        for number in (1, 2, 4):
            self.refused(NoFact, book, "numbered", number)

    def test_a_refused_telling_takes_no_number(self):
        book = made()
        for fact in [(5, "leave", 0), (5, "leave", 3), (5, "enter", 1, 4)]:
            with self.assertRaises(LandError):
                book.tell(fact)
        self.assertEqual(book.tell((5, "leave", 1)), 1)
        with self.assertRaises(Told):
            book.tell((5, "leave", 1))
        self.assertEqual(book.tell((5, "leave", 2)), 2)

    def test_facts_in_order(self):
        book = made()
        told = [(20, "yes", 1), (3, "walk", 2, 1), (3, "bar", 2, 10), (100, "win", 2), (3, "grant", 1, 2, 3),
                (3, "enter", 2, 1), (3, "bar", 2, 9), (3, "enter", 1, 3)]
        for fact in told:
            book.tell(fact)
        self.assertEqual(book.facts(), [
            (3, "bar", 2, 9), (3, "bar", 2, 10), (3, "enter", 1, 3), (3, "enter", 2, 1), (3, "grant", 1, 2, 3),
            (3, "walk", 2, 1), (20, "yes", 1), (100, "win", 2),
        ])

    def test_bad_fact(self):
        book = made()
        for fact in [
            (), (5,), ("leave",), (5, "leave"), ("5", "leave", 1), (5, "leave", "1"), (5, "leave", 1, 1),
            (5, "left", 1), (5, "", 1), (-1, "leave", 1), (10000, "leave", 1), (5, "leave", 0), (5, "leave", 1000),
            (5, "grant", 1, 2, 2), (5, "grant", 1, 0, 2), (5, "walk", 1, 1), (5, "bar", 1, 5), (5, "bar", 1, 10001),
            ("leave", 5, 1), (1, 2, 3), ("a", "b", "c"), (5, 5, 5), (HUGE, "leave", 1), (5, "leave", HUGE),
            (5, "enter", 1, -HUGE),
        ]:
            self.refused(BadFact, book, "tell", fact)

    def test_no_folk(self):
        book = made(folk=3, owners=(1, 2, 3, 1, 2, 3))
        for fact in [
            (5, "grant", 1, 4, 2), (5, "grant", 1, 2, 4), (5, "grant", 1, 999, 998), (5, "enter", 1, 4),
            (5, "hand", 1, 4), (5, "sue", 1, 4), (5, "bar", 4, 9), (5, "bar", 999, 9),
        ]:
            self.refused(NoFolk, book, "tell", fact)
        # Numbers of fields, and days, are no folk.
        for fact in [(5, "leave", 6), (5, "walk", 6, 5), (5, "bar", 3, 9), (5, "enter", 6, 3), (5, "grant", 6, 3, 1)]:
            book.tell(fact)

    def test_no_field(self):
        book = made(folk=9, owners=(1, 2))
        for fact in [
            (5, "grant", 3, 1, 2), (5, "enter", 3, 1), (5, "leave", 3), (5, "hand", 3, 1), (5, "yes", 3),
            (5, "sue", 999, 1), (5, "win", 3), (5, "fall", 3), (5, "walk", 1, 3), (5, "walk", 3, 1), (5, "walk", 3, 4),
        ]:
            self.refused(NoField, book, "tell", fact)
        # Numbers of folk are no fields.
        for fact in [(5, "bar", 9, 20), (5, "grant", 2, 8, 9), (5, "enter", 2, 9), (5, "hand", 1, 7), (5, "sue", 1, 6)]:
            book.tell(fact)

    def test_told(self):
        book = made(facts=[(5, "leave", 1), (5, "grant", 1, 2, 3)])
        self.refused(Told, book, "tell", (5, "leave", 1))
        self.refused(Told, book, "tell", (5, "grant", 1, 2, 3))
        for fact in [(5, "leave", 2), (6, "leave", 1), (5, "grant", 1, 3, 2), (5, "win", 1)]:
            book.tell(fact)

    def test_a_fact_struck_out_and_told_again(self):
        book = made(facts=[(5, "leave", 1)])
        book.strike(1)
        self.assertEqual(book.facts(), [])
        self.assertEqual(book.tell((5, "leave", 1)), 2)
        self.assertEqual(book.facts(), [(5, "leave", 1)])
        self.refused(Told, book, "tell", (5, "leave", 1))
        self.refused(NoFact, book, "strike", 1)

    def test_no_more_than_two_hundred_stand_at_once(self):
        book = made(facts=[(at, "leave", 1) for at in range(199)])
        book.tell((5000, "walk", 1, 2))
        self.assertEqual(len(book.facts()), 200)
        with self.assertRaises(Full):
            book.tell((5000, "walk", 2, 1))
        self.assertEqual((len(book.facts()), book.deeds()), (200, 200))
        self.assertEqual(book.strike(7), (6, "leave", 1))
        self.assertEqual(book.tell((5000, "walk", 2, 1)), 201)
        with self.assertRaises(Full):
            book.tell((6, "leave", 1))
        # More than that may be told, only not stand.
        for number in range(100, 180):
            book.strike(number)
            book.tell((number, "yes", 1))
        self.assertEqual((len(book.facts()), book.deeds()), (200, 362))

    def test_which_refusal_comes_first(self):
        full = made(folk=3, owners=(1, 2), facts=[(at, "leave", 1) for at in range(200)])
        for fact, error in [
            # No fact, and one and a field that the book has not.
            ((5, "grant", 9, 9, 9), BadFact),
            ((5, "walk", 9, 9), BadFact),
            ((10000, "enter", 9, 9), BadFact),
            ((5, "bar", 9, 5), BadFact),
            ((5, "leave", 1, 1), BadFact),
            # One and a field that the book has not.
            ((5, "enter", 3, 4), NoFolk),
            ((5, "grant", 3, 1, 4), NoFolk),
            ((5, "grant", 3, 4, 1), NoFolk),
            ((5, "hand", 999, 999), NoFolk),
            # Full, and a field or one of the folk that the book has not.
            ((5, "enter", 3, 1), NoField),
            ((5, "leave", 3), NoField),
            ((5, "bar", 4, 9), NoFolk),
            # Full, and told.
            ((5, "leave", 1), Told),
            ((199, "leave", 1), Told),
            ((200, "leave", 1), Full),
            ((5, "leave", 2), Full),
        ]:
            with self.subTest(fact):
                with self.assertRaises(LandError) as caught:
                    full.tell(fact)
                self.assertIs(type(caught.exception), error)
        self.assertEqual((full.deeds(), len(full.facts())), (200, 200))

    def test_what_was_refused_may_be_told_when_it_is_let(self):
        book = made(folk=1, owners=(1,))
        self.refused(NoFolk, book, "tell", (5, "enter", 2, 2))
        book.add_folk()
        self.refused(NoField, book, "tell", (5, "enter", 2, 2))
        book.add_field(0)
        self.assertEqual(book.tell((5, "enter", 2, 2)), 1)


class StrikingOut(BookCase):
    def test_no_fact(self):
        book = made(facts=[(5, "leave", 1), (6, "leave", 1)])
        book.strike(1)
        for number in (1, 0, -1, 3, HUGE, -HUGE):
            self.refused(NoFact, book, "strike", number)
            self.refused(NoFact, book, "numbered", number)
        self.assertEqual(book.numbered(2), (6, "leave", 1))
        self.refused(NoFact, Book(TERMS), "strike", 1)

    def test_what_hangs_on_it_is_gone(self):
        book = made(facts=[(2, "enter", 1, 2), (0, "walk", 1, 2), (4, "walk", 1, 2)])
        self.assertEqual(book.claims(8), [(1, 2, 2, None), (2, 2, 0, None)])
        self.assertEqual(book.way(1, 2).turns(), [(5, True), (8, False)])
        book.strike(1)
        self.assertEqual(book.claims(8), [(1, 1, 0, None), (2, 2, 0, None)])
        self.assertEqual(book.way(1, 2).turns(), [(5, True), (9, False)])
        book.strike(2)
        self.assertEqual(book.way(1, 2).turns(), [])


class Diary(BookCase):
    def setUp(self):
        super().setUp()
        self.book = made()
        self.book.tell((5, "leave", 1))
        self.book.tell((3, "enter", 1, 2))
        with self.assertRaises(Told):
            self.book.tell((3, "enter", 1, 2))
        self.book.strike(1)
        with self.assertRaises(NoFact):
            self.book.strike(1)
        self.book.tell((4, "grant", 1, 1, 3))
        self.book.tell((5, "leave", 1))
        self.book.strike(2)

    def test_a_deed_is_a_telling_or_a_striking_out_that_was_let(self):
        self.assertEqual(self.book.deeds(), 6)
        self.book.add_folk()
        self.book.add_field(1)
        self.book.claims(5)
        self.book.known(3)
        self.assertEqual(self.book.deeds(), 6)

    def test_known(self):
        leave, enter, grant = (5, "leave", 1), (3, "enter", 1, 2), (4, "grant", 1, 1, 3)
        wanted = [[], [leave], [enter, leave], [enter], [enter, grant], [enter, grant, leave], [grant, leave]]
        self.assertEqual([self.book.known(count) for count in range(7)], wanted)
        self.book.tell((1, "win", 2))
        self.assertEqual([self.book.known(count) for count in range(7)], wanted)
        self.assertEqual(self.book.known(7), [(1, "win", 2), grant, leave])

    def test_numbers_of_deeds_beyond_both_ends(self):
        for count in (-1, 7, 200, HUGE, -HUGE):
            self.refused(NoStand, self.book, "known", count)
            self.refused(NoStand, self.book, "course_then", 1, count)
        self.refused(NoStand, Book(TERMS), "known", 1)
        self.refused(NoStand, Book(TERMS), "known", -1)

    def test_course_then(self):
        told = [self.book.course_then(1, count).stands() for count in range(7)]
        none, run = (0, 1, 0, -1, False), (3, 1, 2, 3, False)
        self.assertEqual(told, [
            [none],
            [none],
            [none, run, (5, 1, 0, -1, False)],
            [none, run, (9, 2, 2, -1, False)],
            [none, run, (4, 3, 2, 3, False), (9, 2, 2, -1, False)],
            [none, run, (4, 3, 2, 3, False), (5, 3, 0, -1, False)],
            [none, (4, 3, 0, -1, False)],
        ])
        self.assertEqual(self.book.course(1).stands(), told[6])
        self.assertEqual(self.book.course_then(2, 3).stands(), [(0, 2, 0, -1, False)])

    def test_course_then_by_the_bars_that_stood_then(self):
        book = made(facts=[(2, "enter", 1, 2), (4, "bar", 1, 9)])
        book.strike(2)
        told = [book.course_then(1, count).ripenings() for count in range(4)]
        self.assertEqual(told, [[], [(8, 2, [(2, 8)])], [(13, 2, [(2, 4), (9, 13)])], [(8, 2, [(2, 8)])]])

    def test_fields_that_are_no_fields(self):
        for field in (0, 3, -1, HUGE, -HUGE):
            self.refused(NoField, self.book, "course", field)
            self.refused(NoField, self.book, "course_then", field, 2)
            # Ahead of NoStand.
            self.refused(NoField, self.book, "course_then", field, 7)
            self.refused(NoField, self.book, "course_then", field, -1)


class Courses(BookCase):
    def test_the_first_owner_of_the_field_its_facts_bars_and_terms(self):
        book = made(folk=3, owners=(0, 3, 1), facts=[
            (1, "grant", 2, 1, 2), (2, "enter", 2, 2), (2, "enter", 1, 3), (3, "bar", 3, 5), (9, "bar", 1, 20),
        ])
        self.assertEqual(book.course(1).stands(), [(0, 0, 0, -1, False), (2, 0, 3, 2, False), (8, 3, 3, -1, False)])
        self.assertEqual(book.course(2).stands(), [(0, 3, 0, -1, False), (2, 3, 2, 2, True), (7, 2, 2, -1, False)])
        self.assertEqual(book.course(3).stands(), [(0, 1, 0, -1, False)])

    def test_what_is_told_later_changes_nothing_of_it(self):
        book = made(facts=[(2, "enter", 1, 2)])
        course, then = book.course(1), book.course_then(1, 1)
        ahead = course.stands(), course.ripenings(), then.stands()
        book.tell((3, "bar", 1, 90))
        book.tell((4, "leave", 1))
        book.strike(1)
        self.assertEqual((course.stands(), course.ripenings(), then.stands()), ahead)
        self.assertEqual(book.course(1).stands(), [(0, 1, 0, -1, False)])
        self.assertEqual(course.counts(5), 4)

    def test_a_telling_between_two_questions(self):
        book = made(facts=[(2, "enter", 1, 2)])
        self.assertEqual(book.course(1).ripenings(), [(8, 2, [(2, 8)])])
        book.tell((4, "bar", 1, 5))
        self.assertEqual(book.course(1).ripenings(), [(9, 2, [(2, 4), (5, 9)])])
        book.strike(2)
        self.assertEqual(book.course(1).ripenings(), [(8, 2, [(2, 8)])])


class Ways(BookCase):
    FACTS = [(0, "walk", 1, 2), (4, "walk", 1, 2), (2, "walk", 2, 1), (1, "bar", 1, 2), (7, "bar", 2, 8)]

    def test_walks_bars_and_terms(self):
        book = made(facts=self.FACTS)
        self.assertEqual(book.way(1, 2).turns(), [(6, True), (11, False)])
        self.assertEqual(book.way(2, 1).turns(), [])
        book.tell((3, "walk", 2, 1))
        self.assertEqual(book.way(2, 1).turns(), [(7, True), (11, False)])

    def test_by_the_owners_of_both_courses(self):
        book = made(facts=self.FACTS + [(8, "grant", 2, 2, 1)])
        self.assertEqual(book.way(1, 2).turns(), [(6, True), (8, False)])

    def test_what_is_told_later_changes_nothing_of_it(self):
        book = made(facts=self.FACTS)
        way = book.way(1, 2)
        book.tell((6, "walk", 1, 2))
        book.tell((8, "grant", 2, 2, 1))
        book.strike(1)
        self.assertEqual(way.turns(), [(6, True), (11, False)])
        self.assertEqual(way.standing(9), [(6, 9)])

    def test_refusals(self):
        book = made(facts=self.FACTS)
        for over, to in [(0, 1), (1, 0), (3, 1), (1, 3), (-1, 2), (2, -1), (HUGE, 1), (1, HUGE)]:
            self.refused(NoField, book, "way", over, to)
        self.refused(BadFact, book, "way", 1, 1)
        self.refused(BadFact, book, "way", 2, 2)
        # Ahead of BadFact.
        self.refused(NoField, book, "way", 3, 3)
        self.refused(NoField, book, "way", 0, 0)


class Claims(BookCase):
    def test_each_field_in_order(self):
        book = made(folk=3, owners=(1, 0, 3), facts=[
            (2, "enter", 1, 2), (0, "grant", 2, 1, 3), (4, "enter", 2, 3), (6, "enter", 3, 3),
        ])
        for day, wanted in [
            (0, [(1, 1, 0, None), (2, 0, 0, None), (3, 3, 0, None)]),
            (2, [(1, 1, 2, 5), (2, 0, 0, None), (3, 3, 0, None)]),
            (6, [(1, 1, 2, 1), (2, 0, 3, 0), (3, 3, 3, None)]),
            (7, [(1, 1, 2, 0), (2, 3, 3, None), (3, 3, 3, None)]),
            (8, [(1, 2, 2, None), (2, 3, 3, None), (3, 3, 3, None)]),
            (FAR, [(1, 2, 2, None), (2, 3, 3, None), (3, 3, 3, None)]),
        ]:
            self.assertEqual(book.claims(day), wanted)

    def test_a_field_that_is_added_later(self):
        book = made(facts=[(2, "enter", 1, 2)])
        self.assertEqual(len(book.claims(3)), 2)
        book.add_field(0)
        self.assertEqual(book.claims(3), [(1, 1, 2, 4), (2, 2, 0, None), (3, 0, 0, None)])


class Twins(BookCase):
    def book(self):
        book = made(facts=[(2, "enter", 1, 2), (0, "walk", 1, 2), (4, "walk", 1, 2), (3, "yes", 1)])
        book.strike(2)
        book.tell((0, "walk", 1, 2))
        return book

    def test_alike_in_all_things(self):
        book = self.book()
        twin = book.twin()
        self.assertEqual(all_of(twin), all_of(book))
        for one in (book, twin):
            self.refused(NoFact, one, "strike", 2)
            self.assertEqual(one.tell((9, "leave", 2)), 6)
            self.assertEqual(one.strike(5), (0, "walk", 1, 2))
            self.assertEqual(one.add_folk(), 4)
            self.assertEqual(one.add_field(4), 3)
        self.assertEqual(all_of(twin), all_of(book))

    def test_each_goes_on_by_itself(self):
        for first in (0, 1):
            pair = [self.book()]
            pair.append(pair[0].twin())
            one, other = pair[first], pair[1 - first]
            ahead = all_of(other)
            one.add_folk()
            one.add_field(0)
            one.tell((5, "grant", 1, 1, 3))
            one.strike(1)
            self.assertEqual(all_of(other), ahead)
            self.assertEqual(one.claims(5), [(1, 3, 0, None), (2, 2, 0, None), (3, 0, 0, None)])
            ahead = all_of(one)
            other.tell((5, "grant", 1, 1, 2))
            other.strike(3)
            self.assertEqual(all_of(one), ahead)

    def test_the_twin_of_a_book_without_anything(self):
        self.assertEqual(all_of(Book(TERMS).twin()), all_of(Book(TERMS)))


class Kept(BookCase):
    """[1]"""

    def test_told_lists_are_the_askers_own(self):
        book = made(facts=[(2, "enter", 1, 2), (0, "walk", 1, 2), (4, "walk", 1, 2), (3, "bar", 1, 4)])
        ahead = all_of(book)
        for ask in [
            book.fields, book.facts, lambda: book.known(3), lambda: book.known(4), lambda: book.claims(3),
            book.course(1).stands, book.course(1).ripenings, lambda: book.course(1).ripenings()[0][2],
            lambda: book.course(1).owned(1, 9), book.way(1, 2).turns, lambda: book.way(1, 2).standing(9),
        ]:
            rows = ask()
            self.assertTrue(rows)
            rows.append(None)
            rows.reverse()
            self.assertEqual(all_of(book), ahead)

    def test_asking_changes_nothing(self):
        book = made(facts=[(2, "enter", 1, 2), (0, "walk", 1, 2)])
        self.assertEqual(all_of(book), all_of(book))
        self.assertEqual(book.deeds(), 2)


class FullBook(BookCase):
    def test_forty_folk_twenty_fields_two_hundred_facts(self):
        book = made(folk=40, owners=range(20), terms=(400, 999, 999, 999, 999))
        for at in range(200):
            word = ("enter", "bar", "hand", "walk", "grant")[at % 5]
            field = at // 10 + 1
            numbers = {
                "enter": (field, at % 40 + 1), "bar": (at % 40 + 1, 50 * at + 40), "hand": (field, (at + 5) % 40 + 1),
                "walk": (field, field % 20 + 1), "grant": (field, at % 40 + 1, (at + 1) % 40 + 1),
            }[word]
            book.tell((50 * at, word, *numbers))
        self.assertEqual(len(book.facts()), 200)
        self.assertEqual([row[0] for row in book.claims(FAR)], list(range(1, 21)))
        for day in range(0, 12000, 25):
            self.assertEqual([row[1] for row in book.claims(day)], [book.course(at).owner_on(day) for at in range(1, 21)])
        for over, to in itertools.permutations(range(1, 21), 2):
            book.way(over, to).turns()
        for count in range(201):
            self.assertEqual(len(book.known(count)), count)
            book.course_then(20, count).stands()


if __name__ == "__main__":
    unittest.main()
