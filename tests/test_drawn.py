"""Drawn books beside the slow walk through all days ([4] to [12], and [13] as far as it hangs on the facts)."""

import itertools
import random
import unittest

from books import made
from draw import drawn_facts, drawn_terms
from longhold.roll import read_book, written
from slow import SlowCourse, barred_days, gathered, slow_way
from soon import SoonCase

# How many books; folk, fields, most facts and the days of these; the longest term.
KINDS = [
    (400, 2, 2, 12, 12, 4),
    (400, 2, 2, 40, 30, 6),
    (300, 3, 2, 40, 40, 8),
    (100, 3, 3, 60, 40, 6),
    (60, 4, 3, 100, 100, 12),
    (40, 4, 2, 200, 300, 25),
    (10, 3, 2, 200, 1000, 90),
]
# Bars lead no further than half as many days again as the facts, and terms come one behind another.
BEHIND = 2


def drawn_book(chance, folk, fields, many, days, most):
    owners = [chance.randint(0, folk) for _ in range(fields)]
    facts = drawn_facts(chance, chance.randint(0, many), folk, fields, days)
    return made(drawn_terms(chance, most), folk, owners, facts)


class Drawn(SoonCase):
    def books(self):
        for at, (many, *kind) in enumerate(KINDS):
            for number in range(many):
                chance = random.Random(1000 * at + number)
                book = drawn_book(chance, *kind)
                # What the message of a failure shows.
                self.text = f"book {number} of {kind}:\n{written(book)}"
                yield chance, book, BEHIND * kind[3] + 4 * kind[4]

    def equal(self, told, wanted):
        self.assertEqual(told, wanted, self.text)

    def test_courses_ways_and_claims(self):
        for chance, book, behind in self.books():
            slow = [self.course(book, field, behind) for field in range(1, len(book.fields()) + 1)]
            for over, to in itertools.permutations(range(len(slow)), 2):
                self.way(book, slow, over, to, behind)
            for day in chance.sample(range(behind), 5):
                wanted = [(at, *one.days[day][:2], one.lacks(day)) for at, one in enumerate(slow, 1)]
                self.equal(book.claims(day), wanted)

    def course(self, book, field, behind):
        slow = SlowCourse(book.fields()[field - 1], book.facts(), field, book.terms(), behind)
        course = book.course(field)
        self.equal(course.stands(), slow.stands())
        self.equal(course.ripenings(), slow.ripe)
        for day in range(behind):
            owner, holder, _, _ = slow.days[day]
            told = (course.owner_on(day), course.holder_on(day), course.counts(day), course.lacks(day))
            self.equal(told, (owner, holder, slow.counts(day), slow.lacks(day)))
            self.equal(course.fruits(day), slow.fruits(day))
        for one in range(book.folk() + 1):
            for end in (0, 1, behind // 3, behind):
                self.equal(course.owned(one, end), slow.owned(one, end))
        return slow

    def way(self, book, slow, over, to, behind):
        owners = [[day[0] for day in slow[at].days] for at in (over, to)]
        walk_days = {fact[0] for fact in book.facts() if fact[1:] == ("walk", over + 1, to + 1)}
        told = slow_way(*owners, walk_days, barred_days(book.facts()), book.terms(), behind)
        way = book.way(over + 1, to + 1)
        self.equal([way.stands_on(day) for day in range(behind)], told)
        wanted = [(day, stands) for day, stands in enumerate(told) if stands != (day > 0 and told[day - 1])]
        self.equal(way.turns(), wanted)
        for end in (0, 1, behind // 3, behind):
            self.equal(way.standing(end), gathered({day for day in range(end) if told[day]}))

    def test_nothing_hangs_on_the_order_of_telling(self):
        for chance, book, behind in self.books():
            other = made(book.terms(), book.folk(), book.fields())
            facts = book.facts()
            chance.shuffle(facts)
            numbers = [other.tell(fact) for fact in facts]
            # Half of them are struck out, and told once more behind all others.
            for number in numbers[::2]:
                other.strike(number)
            for fact in facts[::2]:
                other.tell(fact)
            self.alike(book, other, behind)
            self.alike(book, read_book(written(book)), behind)

    def alike(self, book, other, behind):
        self.equal(written(book), written(other))
        fields = range(1, len(book.fields()) + 1)
        for field in fields:
            one, beside = book.course(field), other.course(field)
            self.equal(one.stands(), beside.stands())
            self.equal(one.ripenings(), beside.ripenings())
        for over, to in itertools.permutations(fields, 2):
            self.equal(book.way(over, to).turns(), other.way(over, to).turns())
        self.equal(book.claims(behind), other.claims(behind))


if __name__ == "__main__":
    unittest.main()
