"""Ways over fields: how they come to stand by use, and stand no more by rest."""

from longhold.days import ENDLESS, clipped, counted, holds, joined, reach
from longhold.land import NOBODY


class Track:
    """How far a way has come by use or by rest, on its walk through the days."""

    def __init__(self, terms):
        self.gap, self.gain, self.rest = terms[2:]
        self.in_use = False
        self.in_force = False
        # The days that the use counts, or the days of rest while the way stands.
        self.many = 0
        self.last_walk = 0
        self.turned = []

    def sleep(self, day):
        """Begins a span of days on which the way sleeps."""
        self.in_use = False
        if self.in_force:
            self._turn(day, False)

    def go_on(self, day, behind, walked, over_holes, to_holes):
        """Goes from a day to the one ahead of behind; of these only the first is walked, if any."""
        self._start(day)
        if walked:
            self._walk(day)
            # A day on which it is walked is no day of rest, as if one were barred on it.
            to_holes = joined(to_holes, [(day, day + 1)])
        first = day
        if self.in_use:
            first = self._use(day, behind, over_holes)
        if self.in_force:
            self._rest(first, behind, to_holes)

    def _start(self, day):
        """What the days ahead have brought about at the start of a day."""
        if self.in_use and self.many == self.gain:
            self._turn(day, True)
        elif self.in_force and self.many == self.rest:
            self._turn(day, False)

    def _turn(self, day, in_force):
        self.in_use = False
        self.in_force = in_force
        self.many = 0
        self.turned.append((day, in_force))

    def _walk(self, day):
        if self.in_force:
            self.many = 0
            return
        if not self.in_use:
            self.in_use = True
            self.many = 0
        self.last_walk = day

    def _use(self, day, behind, holes):
        """Lets the use count; tells the day up to which it did."""
        over = self.last_walk + self.gap + 1
        ripe = reach(holes, day, self.gain - self.many)
        until = min(ripe, over, behind)
        self.many += counted(holes, day, until)
        # Whether the way sleeps or is walked on the day behind the span is not known here.
        if until == behind:
            return until
        self._start(until)
        self.in_use = False
        return until

    def _rest(self, first, behind, holes):
        """Lets the days of rest grow."""
        ripe = reach(holes, first, self.rest - self.many)
        self.many += counted(holes, first, min(ripe, behind))
        if ripe < behind:
            self._start(ripe)


class Way:
    """The way over one field for the sake of another, by their courses, its walks, the barred days, and terms."""

    def __init__(self, over, to, walks, bars, terms):
        track = Track(terms)
        walked = {day: True for day in walks}
        changes = [stand[0] for stand in over.stands() + to.stands()]
        days = sorted(set(walks + changes))
        for day, behind in zip(days, days[1:] + [ENDLESS]):
            over_owner = over.owner_on(day)
            to_owner = to.owner_on(day)
            if over_owner == to_owner and over_owner != NOBODY:
                track.sleep(day)
            else:
                track.go_on(day, behind, day in walked, bars.get(over_owner, []), bars.get(to_owner, []))
        self._turns = track.turned
        # Bars and terms end, so each standing does: the turns come in pairs.
        firsts = [day for day, stands in self._turns if stands]
        ends = [day for day, stands in self._turns if not stands]
        self._standing = list(zip(firsts, ends))

    def stands_on(self, day):
        """Whether the way stands on a day."""
        return holds(self._standing, day)

    def turns(self):
        """Tuples (day, True) or (day, False): the days on which it begins to stand, or stands no more."""
        return list(self._turns)

    def standing(self, behind):
        """The set of the days ahead of behind on which the way stands."""
        return clipped(self._standing, 0, behind)
