"""Nets, fates, events and runs by chance, the same each time, for the tests of several promises."""

from roundnews.makes import least_round
from roundnews.runs import Run


def some_net(chance, houses, most_streets, most_wait):
    """A net of so many houses; by chance all hang together or not."""
    pairs = [(one, other) for one in range(houses) for other in range(one + 1, houses)]
    chance.shuffle(pairs)
    many = min(len(pairs), chance.randrange(most_streets + 1))
    return (houses, [(one, other, chance.randrange(1, most_wait + 1)) for one, other in pairs[:many]])


def some_tree(chance, houses, more, most_wait):
    """A net of so many houses that hang together, with some streets more than are needed for it."""
    pairs = [tuple(sorted((house, chance.randrange(house)))) for house in range(1, houses)]
    others = [(one, other) for one in range(houses) for other in range(one + 1, houses) if (one, other) not in pairs]
    pairs += chance.sample(others, min(more, len(others)))
    chance.shuffle(pairs)
    return (houses, [(one, other, chance.randrange(1, most_wait + 1)) for one, other in pairs])


def some_fates(chance, many, letters, most_late):
    """So many fates of unlike letters."""
    kinds = [("lose",), ("late", chance.randrange(1, most_late + 1)), ("twice", chance.randrange(1, most_late + 1))]
    return [(letter, chance.choice(kinds)) for letter in chance.sample(range(letters), many)]


def some_words(chance):
    return chance.choice(["", "a", "b", "!!", "# ", "tell: 3", "~" * 30, None])


def some_event(chance, net):
    houses, streets = net
    kind = chance.choice(["tell", "tell", "tell", "take", "fall", "down", "up", "up"])
    if kind in ("down", "up") and streets:
        return (kind, chance.randrange(len(streets)))
    if kind == "tell":
        return (kind, chance.randrange(houses), some_words(chance))
    return (chance.choice(["take", "fall"]), chance.randrange(houses))


def some_make(chance, room):
    """A safe make, by chance just so."""
    life, gap = chance.choice([(1, 1), (4, 1), (6, 2), (10, 3), (12, 12), (20, 6), (30, 30)])
    return (least_round(life, gap) + chance.choice([0, 0, 1, 5]), life, gap, room, chance.choice([1, 3, 4, 7, 60]))


def shown(run):
    """All that a Run's methods tell, but step."""
    homes = range(len(run.homes))
    return (
        run.now(), run.log(), [run.held(house) for house in homes], [run.number(house) for house in homes], run.up(),
        run.sent(), run.under_way())


def run_of(make, net, fates, steps):
    """A Run that has done these steps, each a list of events."""
    run = Run(make, net, fates)
    for events in steps:
        run.step(events)
    return run
