"""Small checkers of what rounds.py tells; they search nothing."""

from roundnews.kinds import is_number
from roundnews.rounds import is_far, is_newer, is_ring


def shows_order(size, numbers, thing):
    """Tell whether thing is the list that in_order tells of the numbers."""
    if not isinstance(thing, list) or len(thing) != len(set(numbers)):
        return False
    if not are_of(numbers, thing):
        return False
    # None is newer than itself, so this bars one that stands twice, too: with as many as are unlike, none is left out.
    return all([is_newer(size, thing[at], thing[place]) for at in range(len(thing)) for place in range(at)])


def shows_bar(size, numbers, thing):
    """Tell whether thing is a tuple of two that are far or of three that go round, the first one or not."""
    if not isinstance(thing, tuple) or len(thing) not in (3, 4):
        return False
    word, some = thing[0], thing[1:]
    if not are_of(numbers, some):
        return False
    if len(some) == 2:
        return word == "far" and is_far(size, some[0], some[1])
    return word == "ring" and is_ring(size, some[0], some[1], some[2])


def are_of(numbers, some):
    """Tell whether all of some are numbers, and among those."""
    return all([is_number(thing) and thing in numbers for thing in some])
