"""Drawn books: the same ones at each run."""

WORDS = ["grant", "enter", "leave", "hand", "yes", "sue", "win", "fall", "bar", "walk"]
# How often a word is drawn in some book: some words crowd it, others hardly come up.
WEIGHTS = [1, 1, 3, 9]


def drawn_terms(chance, most):
    short = chance.randint(1, most)
    return (short, chance.randint(short, most), *(chance.randint(1, most) for _ in range(3)))


def drawn_fact(chance, word, folk, fields, days):
    day = chance.randrange(days)
    if word == "bar":
        return (day, word, chance.randint(1, folk), day + chance.randint(1, max(1, days // 4)))
    if word == "walk":
        return (day, word, *chance.sample(range(1, fields + 1), 2))
    field = chance.randint(1, fields)
    if word == "grant":
        return (day, word, field, *chance.sample(range(1, folk + 1), 2))
    if word in ("enter", "hand", "sue"):
        return (day, word, field, chance.randint(1, folk))
    return (day, word, field)


def beside(chance, fact, folk, days):
    """Facts that make something of a fact, which else seldom comes of chance: papers to enter by, suits that are won."""
    day, word, field = fact[:3]
    if word == "enter" and folk > 1:
        givers = [giver for giver in range(1, folk + 1) if giver != fact[3]]
        yield (chance.randint(0, day), "grant", field, chance.choice(givers), fact[3])
    if word == "sue":
        for one in range(1, folk + 1):
            yield (day, "sue", field, one)
        yield (min(days - 1, day + chance.randint(0, days // 4)), "win", field)


def drawn_facts(chance, many, folk, fields, days):
    """Facts in the order of their drawing, none twice."""
    weights = [chance.choice(WEIGHTS) for _ in WORDS]
    facts = []
    for word in chance.choices(WORDS, weights, k=many):
        fact = drawn_fact(chance, word, folk, fields, days)
        facts.append(fact)
        if chance.random() < 0.4:
            facts.extend(beside(chance, fact, folk, days))
    return list(dict.fromkeys(facts))[:many]
