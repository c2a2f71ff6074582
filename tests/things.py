"""What several tests use: things of all kinds, and lists of numbers."""

import random


def deep(kind, inmost, many=20):
    """Put inmost many deep into lists or tuples."""
    thing = inmost
    for _ in range(many):
        thing = [thing] if kind is list else (thing,)
    return thing


def odd_things():
    """Things of every kind that may be asked about, none of them an order, a bar, words or a news."""
    return [
        0, 1, -1, 10 ** 15, True, False,
        (), (None,), [None], [True], (False,), [[]], [()], ((),), ([],), [""], ("",), ["far"], ("far",), ("ring",),
        [0, [1]], [0, (1,)], (0, (1,)), [0, "1"], [0, None], [0, True],
        ("far", "far", "far"), ("ring", None, None, None), ("far", [0], [2]), ((0,), 0, 2), ([], 0, 2),
        deep(list, 0), deep(tuple, 0), deep(list, "far"), deep(tuple, None), deep(list, ()), deep(tuple, []),
        ("far", deep(list, 0, 19), 2), (0, 0, 0, deep(tuple, "x", 19)), [deep(list, 1, 19), 1],
    ]


def great_lists():
    """Pairs (round, forty numbers) of great rounds: far apart, in any order, in a row, over the turn, by threes."""
    chance = random.Random(4)
    found = []
    for size in (10 ** 12, 10 ** 12 - 1):
        row = [(size - 20 + step) % size for step in range(40)]
        shuffled = list(row)
        chance.shuffle(shuffled)
        half = [step * (size // 81) for step in range(40)]
        chance.shuffle(half)
        found += [
            (size, row), (size, row[::-1]), (size, shuffled), (size, half),
            (size, [step * (size // 40) for step in range(40)]),
            (size, [step * (size // 3) + step // 3 for step in range(3)] + list(range(37))),
            (size, [chance.randrange(size) for _ in range(40)]),
            (size, [7] * 40),
        ]
    return found
