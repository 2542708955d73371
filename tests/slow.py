"""The slow walk through all days, beside the program and apart from it: it only knows facts as tuples.

Every day is gone through by itself, one after the other, as DOC.md tells it; no set of days is reckoned with.
"""


def spread(rows):
    """The days of a list of tuples (first, behind)."""
    return {day for first, behind in rows for day in range(first, behind)}


def gathered(members):
    """The one list of tuples (first, behind) of a set of days."""
    rows = []
    for day in sorted(members):
        if rows and rows[-1][1] == day:
            rows[-1] = (rows[-1][0], day + 1)
        else:
            rows.append((day, day + 1))
    return rows


def barred_days(facts):
    """From folk to the set of their barred days."""
    days = {}
    for fact in facts:
        if fact[1] == "bar":
            days.setdefault(fact[2], set()).update(range(fact[0], fact[3]))
    return days


class SlowCourse:
    """All that stands of one field, for each day ahead of behind."""

    def __init__(self, owner, facts, field, terms, behind):
        self.barred = barred_days(facts)
        self.terms = terms
        self.facts = sorted(fact for fact in facts if fact[1] not in ("bar", "walk") and fact[2] == field)
        self.owner, self.holder, self.frozen, self.papers = owner, 0, False, set()
        self.run = None
        self.days = []
        self.ripe = []
        for day in range(behind):
            self.one_day(day)

    def begin(self, day):
        self.run = {"since": day, "good": self.holder in self.papers, "days": set(), "ripe": False}

    def one_day(self, day):
        run = self.run
        if run is not None and len(run["days"]) == self.terms[0 if run["good"] else 1]:
            run["ripe"] = True
            self.ripe.append((day, self.holder, gathered(run["days"])))
            self.owner, self.run = self.holder, None
        for at, fact in enumerate(self.facts):
            if fact[0] == day:
                getattr(self, "do_" + fact[1])(at, *fact[:1], *fact[3:])
                assert (self.run is None) == (self.holder in (0, self.owner)), fact
        run = self.run
        if run is not None and not self.frozen and day not in self.barred.get(self.owner, ()):
            run["days"].add(day)
        stand = None if run is None else (run["since"], run["good"], len(run["days"]))
        self.days.append((self.owner, self.holder, stand, run))

    def do_grant(self, _, day, giver, taker):
        if giver != self.owner:
            self.papers.add(taker)
            return
        was_owner = self.holder == self.owner
        self.owner = taker
        if self.holder == self.owner:
            self.run = None
        elif was_owner:
            self.begin(day)

    def do_enter(self, _, day, one):
        if self.holder != one:
            self.holder, self.run = one, None
            if one != self.owner:
                self.begin(day)

    def do_leave(self, _, day):
        self.holder, self.run = 0, None

    def do_hand(self, _, day, one):
        if self.holder == 0 or self.holder == one:
            return
        ahead, self.holder = self.holder, one
        if one == self.owner:
            self.run = None
        elif ahead == self.owner:
            self.begin(day)
        else:
            self.run["good"] = self.run["good"] and one in self.papers

    def do_yes(self, _, day):
        if self.run is not None:
            self.begin(day)
            self.run["good"] = False

    def do_sue(self, at, day, one):
        ends = [fact[1] for fact in self.facts[at + 1:] if fact[1] in ("win", "fall")]
        if one == self.owner and self.run is not None and not self.frozen and ends[:1] == ["win"]:
            self.frozen = True

    def do_win(self, _, day):
        if self.frozen:
            self.frozen = False
            if self.run is not None:
                self.holder, self.run = 0, None

    def do_fall(self, _, day):
        pass

    def stands(self):
        rows = []
        for day, (owner, holder, stand, _) in enumerate(self.days):
            row = (owner, holder, *((-1, False) if stand is None else stand[:2]))
            if not rows or rows[-1][1:] != row:
                rows.append((day, *row))
        return rows

    def counts(self, day):
        stand = self.days[day][2]
        return None if stand is None else stand[2]

    def lacks(self, day):
        stand = self.days[day][2]
        return None if stand is None else self.terms[0 if stand[1] else 1] - stand[2]

    def fruits(self, day):
        owner, holder, stand, run = self.days[day]
        if stand is not None and (stand[1] or run["ripe"]):
            return holder
        return owner

    def owned(self, one, behind):
        return gathered({day for day in range(behind) if self.days[day][0] == one})


def slow_way(over, to, walk_days, barred, terms, behind):
    """Whether the way stands, for each day ahead of behind; over and to tell the owners of each day."""
    _, _, gap, gain, rest = terms
    stands, used, last, counting, resting = False, False, 0, 0, 0
    told = []
    for day in range(behind):
        walked = day in walk_days
        if over[day] == to[day] != 0:
            stands = used = False
            told.append(False)
            continue
        if used and counting == gain:
            stands, used, resting = True, False, 0
        elif stands and resting == rest:
            stands = False
        if stands:
            if walked:
                resting = 0
            elif day not in barred.get(to[day], ()):
                resting += 1
        else:
            if walked and not used:
                used, counting = True, 0
            if walked:
                last = day
            if used and day - last > gap:
                used = False
            if used and day not in barred.get(over[day], ()):
                counting += 1
        told.append(stands)
    return told
