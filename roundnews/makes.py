"""Makes, and which of them are safe.

A make is a tuple (round, life, gap, room, beat).
"""

from roundnews.kinds import is_number
from roundnews.rounds import reach

LOWEST_ROUND = 3


def is_make(thing):
    """Tell whether thing is a make, however great its numbers are."""
    if not isinstance(thing, tuple) or len(thing) != 5:
        return False
    if not all([is_number(part) for part in thing]):
        return False
    return thing[0] >= LOWEST_ROUND and min(thing) >= 1


def most_alive(make):
    """Tell how many news of one house are at most of an age below life at once."""
    _, life, gap, _, _ = make
    return alive_at_once(life, gap)


def jump(make):
    """Tell how many steps on from an old number of its own a house begun anew tells its first one."""
    return most_alive(make)


def is_safe(make):
    """Tell whether of all numbers of one house that may be about at once the one told later is the newer."""
    return spread(jump(make)) <= reach(make[0])


def least_round(life, gap):
    """Tell the least round of a safe make of this life and gap."""
    # The least round whose reach is so many steps is one more than twice as many.
    return 2 * spread(alive_at_once(life, gap)) + 1


def alive_at_once(life, gap):
    """Tell how many news told gap ticks apart are at most of an age below life at once."""
    return 1 + (life - 1) // gap


def spread(many):
    """Tell how many steps the newest number about is at most on from the oldest, many being alive at once."""
    # The house may have heeded the newest of them, and tell the next one so many steps on from it.
    return 2 * many - 1
