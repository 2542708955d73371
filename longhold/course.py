"""The course of a field: who owns it and holds it on each day, and when a holding becomes ripe."""

from longhold.days import ENDLESS, clipped, counted, reach, tidy
from longhold.land import Land


class Span:
    """What stands of a field from one day on, up to the next span."""

    def __init__(self, first, land):
        self.first = first
        self.owner = land.owner
        self.holder = land.holder
        self.since = land.since
        self.good = land.good
        self.frozen = land.frozen
        # The number of the run tells it from the others of the field.
        self.run = land.begun if land.has_run() else None
        # How many days the run counts ahead of the first one.
        self.before = land.many_days()


class Course:
    """The course of one field, by its first owner, its facts in order, the barred days of folk, and terms."""

    def __init__(self, owner, facts, bars, terms):
        self._bars = {one: list(bars[one]) for one in bars}
        self._short, self._long = terms[:2]
        self._spans = []
        self._ripenings = []
        self._ripe_runs = {}
        self._go_through(Land(owner), facts)

    def stands(self):
        """Tuples (day, owner, holder, since, good): day 0, and each day on which one of these is another."""
        rows = []
        for span in self._spans:
            stand = (span.owner, span.holder, span.since, span.good)
            if not rows or rows[-1][1:] != stand:
                rows.append((span.first, *stand))
        return rows

    def ripenings(self):
        """Tuples (day, holder, days) of the runs that became ripe."""
        return [(day, holder, list(days)) for day, holder, days in self._ripenings]

    def owner_on(self, day):
        """Who owns the field on a day."""
        return self._span_on(day).owner

    def holder_on(self, day):
        """Who holds the field on a day."""
        return self._span_on(day).holder

    def counts(self, day):
        """How many days the run of a day counts, that day with it if it counts; None without a run."""
        span = self._span_on(day)
        if span.run is None:
            return None
        if span.frozen:
            return span.before
        return span.before + counted(self._holes(span.owner), span.first, day + 1)

    def lacks(self, day):
        """How many days the run of a day lacks of its term; None without a run."""
        many = self.counts(day)
        if many is None:
            return None
        return self._term(self._span_on(day).good) - many

    def fruits(self, day):
        """Whose the fruits of a day are."""
        span = self._span_on(day)
        if span.good or span.run in self._ripe_runs:
            return span.holder
        return span.owner

    def owned(self, one, behind):
        """The set of the days ahead of behind on which one, or nobody, owns the field."""
        ends = [span.first for span in self._spans[1:]] + [behind]
        days = tidy([(span.first, end) for span, end in zip(self._spans, ends) if span.owner == one])
        return clipped(days, 0, behind)

    def _go_through(self, land, facts):
        self._mark(0, land)
        last = 0
        for fact, won in zip(facts, _wins_behind(facts)):
            day = fact[0]
            if day > last:
                self._run_on(land, last, day)
                last = day
            land.happen(fact, won)
            self._mark(day, land)
        self._run_on(land, last, ENDLESS)

    def _run_on(self, land, first, behind):
        """Lets the run count from first on, and become ripe at the start of behind or ahead of it."""
        if not land.has_run() or land.frozen:
            return
        holes = self._holes(land.owner)
        ripe = reach(holes, first, self._term(land.good) - land.many_days())
        land.count_days(first, min(ripe, behind), holes)
        if ripe <= behind:
            self._ripenings.append((ripe, land.holder, land.days))
            self._ripe_runs[land.begun] = True
            land.ripen()
            self._mark(ripe, land)

    def _mark(self, first, land):
        # What stands on a day is what stands behind all of its facts: the last mark of a day stays.
        if self._spans and self._spans[-1].first == first:
            self._spans.pop()
        self._spans.append(Span(first, land))

    def _span_on(self, day):
        low = 0
        high = len(self._spans)
        while high - low > 1:
            middle = (low + high) // 2
            if self._spans[middle].first <= day:
                low = middle
            else:
                high = middle
        return self._spans[low]

    def _holes(self, owner):
        return self._bars.get(owner, [])

    def _term(self, good):
        return self._short if good else self._long


def _wins_behind(facts):
    """For each fact, whether of all wins and falls behind it the first one is a win."""
    wins = []
    won = False
    for fact in reversed(facts):
        wins.append(won)
        if fact[1] in ("win", "fall"):
            won = fact[1] == "win"
    return wins[::-1]
