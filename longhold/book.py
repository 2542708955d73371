"""The book: folk, fields and the diary of facts, and what hangs on the facts that stand."""

from longhold.course import Course
from longhold.errors import BadFact, BadTerm, Full, NoFact, NoField, NoFolk, NoStand, Told
from longhold.facts import all_bars, in_order, is_fact, numbers_of, of_field, walks
from longhold.land import NOBODY
from longhold.ways import Way

MOST_FOLK = 40
MOST_FIELDS = 20
MOST_FACTS = 200
LONGEST_TERM = 999

# No refusal writes out a number that was handed in: Python itself refuses to write out very long ones.


class Book:
    """A book of terms, folk, fields and facts."""

    def __init__(self, terms):
        if not are_terms(terms):
            raise BadTerm("no terms")
        self._terms = terms
        self._folk = 0
        self._owners = []
        # From the numbers of the standing facts to these.
        self._standing = {}
        # A pair (number, fact) for each deed: the first one of a number tells the fact, the second strikes it out.
        self._deeds = []
        self._tellings = 0
        # Courses by the facts that stand now, as far as they were asked for.
        self._courses = {}

    def terms(self):
        """The terms, as they were handed in."""
        return self._terms

    def add_folk(self):
        """Adds one more of the folk; tells the number."""
        if self._folk >= MOST_FOLK:
            raise Full("no room for more folk")
        self._folk += 1
        return self._folk

    def add_field(self, owner):
        """Adds a field with its first owner, or nobody; tells the number."""
        if not NOBODY <= owner <= self._folk:
            raise NoFolk("the first owner is none of the folk")
        if len(self._owners) >= MOST_FIELDS:
            raise Full("no room for more fields")
        self._owners.append(owner)
        return len(self._owners)

    def folk(self):
        """How many folk the book has."""
        return self._folk

    def fields(self):
        """The first owners of the fields."""
        return list(self._owners)

    def tell(self, fact):
        """Tells a fact; tells its number."""
        self._check_new(fact)
        self._tellings += 1
        self._standing[self._tellings] = fact
        self._keep_deed(self._tellings, fact)
        return self._tellings

    def strike(self, number):
        """Strikes out the fact that stands under a number; tells it."""
        fact = self.numbered(number)
        del self._standing[number]
        self._keep_deed(number, fact)
        return fact

    def facts(self):
        """The standing facts, in order."""
        return in_order(list(self._standing.values()))

    def numbered(self, number):
        """The fact that stands under a number."""
        if number not in self._standing:
            raise NoFact("no fact stands under the number")
        return self._standing[number]

    def deeds(self):
        """How many deeds the diary has."""
        return len(self._deeds)

    def known(self, count):
        """The facts that stood behind the first so many deeds, in order."""
        if not 0 <= count <= len(self._deeds):
            raise NoStand("the diary has not so many deeds")
        standing = {}
        for number, fact in self._deeds[:count]:
            if number in standing:
                del standing[number]
            else:
                standing[number] = fact
        return in_order(list(standing.values()))

    def course(self, field):
        """The course of a field by the facts that stand now."""
        self._check_field(field)
        if field not in self._courses:
            self._courses[field] = self._course_by(field, self.facts())
        return self._courses[field]

    def course_then(self, field, count):
        """The course of a field by the facts that stood behind the first so many deeds."""
        self._check_field(field)
        return self._course_by(field, self.known(count))

    def way(self, over, to):
        """The way over a field for the sake of another one, by the facts that stand now."""
        self._check_field(over)
        self._check_field(to)
        if over == to:
            raise BadFact("a way leads from no field to itself")
        facts = self.facts()
        return Way(self.course(over), self.course(to), walks(facts, over, to), all_bars(facts), self._terms)

    def claims(self, day):
        """A tuple (field, owner, holder, lacks) for each field, on a day."""
        rows = []
        for field in range(1, len(self._owners) + 1):
            course = self.course(field)
            rows.append((field, course.owner_on(day), course.holder_on(day), course.lacks(day)))
        return rows

    def twin(self):
        """A book alike in all things, which goes on by itself."""
        other = Book(self._terms)
        other._folk = self._folk
        other._owners = list(self._owners)
        other._standing = dict(self._standing)
        other._deeds = list(self._deeds)
        other._tellings = self._tellings
        return other

    def _check_field(self, field):
        if not 1 <= field <= len(self._owners):
            raise NoField("the book has not that field")

    def _check_new(self, fact):
        if not is_fact(fact):
            raise BadFact("no fact")
        if max(numbers_of(fact, "folk"), default=NOBODY) > self._folk:
            raise NoFolk("one that the book has not stands in the fact")
        for field in numbers_of(fact, "field"):
            self._check_field(field)
        if fact in list(self._standing.values()):
            raise Told("that very fact stands")
        if len(self._standing) >= MOST_FACTS:
            raise Full("no room for more facts")

    def _keep_deed(self, number, fact):
        self._deeds.append((number, fact))
        # They hang on the facts that stood ahead of the deed.
        self._courses = {}

    def _course_by(self, field, facts):
        return Course(self._owners[field - 1], of_field(facts, field), all_bars(facts), self._terms)


def are_terms(numbers):
    """Whether a tuple of five numbers is terms."""
    return all([1 <= number <= LONGEST_TERM for number in numbers]) and numbers[0] <= numbers[1]
