"""Facts: tuples (day, word, numbers), and their texts."""

from longhold.days import tidy
from longhold.errors import BadLine

LAST_DAY = 9999
LAST_UNTIL = 10000
LAST_NUMBER = 999
# No number of a fact has more figures than LAST_UNTIL.
MOST_FIGURES = 5
# Kinds, not bounds: how far an until may go hangs on the day of its fact.
KINDS = {
    "grant": ("field", "folk", "folk"),
    "enter": ("field", "folk"),
    "leave": ("field",),
    "hand": ("field", "folk"),
    "yes": ("field",),
    "sue": ("field", "folk"),
    "win": ("field",),
    "fall": ("field",),
    "bar": ("folk", "until"),
    "walk": ("field", "field"),
}


def is_fact(thing):
    """Whether a tuple of numbers and texts is a fact."""
    if len(thing) < 2 or thing[1] not in KINDS:
        return False
    day, word, *numbers = thing
    kinds = KINDS[word]
    if not _within(day, 0, LAST_DAY) or len(numbers) != len(kinds):
        return False
    if word in ("grant", "walk") and numbers[-2] == numbers[-1]:
        return False
    return all([_fits(number, kind, day) for number, kind in zip(numbers, kinds)])


def numbers_of(fact, kind):
    """The numbers of one kind that stand in a fact."""
    return [number for number, other in zip(fact[2:], KINDS[fact[1]]) if other == kind]


def in_order(facts):
    """The facts in the order in which they stand."""
    return sorted(facts)


def of_field(facts, field):
    """The facts that are of a field, in order."""
    return in_order([fact for fact in facts if fact[1] not in ("bar", "walk") and fact[2] == field])


def walks(facts, over, to):
    """The days on which the way over a field for the sake of another one is walked."""
    return sorted({fact[0] for fact in facts if fact[1:] == ("walk", over, to)})


def barred(facts, one):
    """The set of the days on which nothing runs against one."""
    return tidy([(fact[0], fact[3]) for fact in facts if fact[1:3] == ("bar", one)])


def all_bars(facts):
    """A dict from folk to their barred days, for those who have some."""
    folk = sorted({fact[2] for fact in facts if fact[1] == "bar"})
    return {one: barred(facts, one) for one in folk}


def line(fact):
    """The text of a fact."""
    day, word, *numbers = fact
    return " ".join([word, str(day)] + [str(number) for number in numbers])


def fact_of(text):
    """The fact that is written so."""
    word, *figures = text.split(" ")
    numbers = [number_of(part) for part in figures]
    fact = tuple(numbers[:1] + [word] + numbers[1:])
    if not is_fact(fact):
        raise BadLine("no fact is written so")
    return fact


def number_of(figures):
    """The number that is written so, if it has no more figures than a number of a fact."""
    # Python refuses to read very many figures with an error of its own: never ask it to.
    if len(figures) > MOST_FIGURES or not figures.isdecimal() or str(int(figures)) != figures:
        raise BadLine("no number of a fact is written so")
    return int(figures)


def _within(number, least, most):
    """Whether it is a number within the bounds; a text is none."""
    return isinstance(number, int) and least <= number <= most


def _fits(number, kind, day):
    """Whether it is a number that may stand so in a fact of that day."""
    if kind == "until":
        return _within(number, day + 1, LAST_UNTIL)
    return _within(number, 1, LAST_NUMBER)
