"""What stands of a field at one moment, and what the facts of the field do to it."""

from longhold.days import joined, length, without

NOBODY = 0
NO_RUN = -1


class Land:
    """A field: its owner, its holder, the run of the holder, the papers for it, and whether it is frozen."""

    def __init__(self, owner):
        self.owner = owner
        self.holder = NOBODY
        self.since = NO_RUN
        self.good = False
        self.days = []
        self.frozen = False
        # How many runs have begun so far: the number of the run that stands, if one does.
        self.begun = 0
        self._papers = {}

    def has_run(self):
        """Whether whoever holds the field isn't its owner."""
        return self.since != NO_RUN

    def many_days(self):
        """How many days the run counts so far."""
        return length(self.days)

    def count_days(self, first, behind, holes):
        """Lets the run count the days from first to the one ahead of behind that are not in holes."""
        self.days = joined(self.days, without([(first, behind)], holes))

    def ripen(self):
        """Makes the holder the owner."""
        self.owner = self.holder
        self._end_run()

    def happen(self, fact, won):
        """Lets a fact happen; won is whether the next win or fall behind it is a win."""
        match fact:
            case (day, "grant", _, giver, taker):
                self._grant(day, giver, taker)
            case (day, "enter", _, one):
                self._enter(day, one)
            case (_, "leave", _):
                self._leave()
            case (day, "hand", _, one):
                self._hand(day, one)
            case (day, "yes", _):
                self._own_up(day)
            case (_, "sue", _, one):
                self._sue(one, won)
            case (_, "win", _):
                self._win()

    def _begin_run(self, day):
        self.since = day
        self.good = self.holder in self._papers
        self.days = []
        self.begun += 1

    def _end_run(self):
        self.since = NO_RUN
        self.good = False
        self.days = []

    def _grant(self, day, giver, taker):
        if giver != self.owner:
            self._papers[taker] = True
            return
        self.owner = taker
        if self.holder == taker:
            self._end_run()
        elif self.holder == giver:
            self._begin_run(day)

    def _enter(self, day, one):
        if self.holder == one:
            return
        self.holder = one
        self._end_run()
        if one != self.owner:
            self._begin_run(day)

    def _leave(self):
        self.holder = NOBODY
        self._end_run()

    def _hand(self, day, one):
        if self.holder in (NOBODY, one):
            return
        self.holder = one
        if one == self.owner:
            self._end_run()
        elif self.has_run():
            self.good = self.good and one in self._papers
        else:
            # The one ahead held as the owner, so there is no run to go on.
            self._begin_run(day)

    def _own_up(self, day):
        if self.has_run():
            self._begin_run(day)
            self.good = False

    def _sue(self, one, won):
        if one == self.owner and self.has_run() and won:
            self.frozen = True

    def _win(self):
        if self.frozen and self.has_run():
            self._leave()
        self.frozen = False
