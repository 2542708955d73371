"""Sets of days: rising lists of tuples (first, behind) that neither touch nor overlap."""

# Behind every day that bars and terms lead to.
ENDLESS = 10 ** 40


def is_days(rows):
    """Whether a list of tuples of two numbers is a set of days."""
    # Each set of days has just one list, so only that list comes through tidy as it is.
    return tidy(rows) == rows


def tidy(rows):
    """The set of all days of a list of tuples (first, behind) in any order."""
    days = []
    for first, behind in sorted([row for row in rows if row[0] < row[1]]):
        if days and first <= days[-1][1]:
            days[-1] = (days[-1][0], max(days[-1][1], behind))
        else:
            days.append((first, behind))
    return days


def holds(days, day):
    """Whether a day is in the set."""
    return any([first <= day < behind for first, behind in days])


def length(days):
    """How many days the set has."""
    return sum([behind - first for first, behind in days])


def joined(one, other):
    """The days that are in either."""
    return tidy(one + other)


def common(one, other):
    """The days that are in both."""
    days = []
    at = 0
    beside = 0
    while at < len(one) and beside < len(other):
        first = max(one[at][0], other[beside][0])
        behind = min(one[at][1], other[beside][1])
        if first < behind:
            days.append((first, behind))
        if one[at][1] == behind:
            at += 1
        else:
            beside += 1
    return days


def without(one, other):
    """The days that are in one and not in other."""
    if not one:
        return []
    return common(one, _gaps(other, one[0][0], one[-1][1]))


def clipped(days, first, behind):
    """The days of the set from first to the one ahead of behind."""
    return common(days, tidy([(first, behind)]))


def counted(holes, first, behind):
    """How many days from first to the one ahead of behind are not in the set holes."""
    return length(_gaps(holes, first, behind))


def reach(holes, first, many):
    """The least day, first or later, ahead of which many days from first on are not in holes."""
    day = first
    left = many
    for hole, behind in holes:
        free = max(0, hole - day)
        # Enough days ahead of a hole end the search there: the hole itself is not gone through.
        if left <= free:
            break
        left -= free
        day = max(day, behind)
    return day + left


def _gaps(holes, first, behind):
    """The days from first to the one ahead of behind that are not in holes."""
    spans = []
    start = first
    for hole, end in clipped(holes, first, behind):
        spans.append((start, hole))
        start = end
    spans.append((start, behind))
    return tidy(spans)
