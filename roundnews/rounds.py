"""Numbers that come round, and which lists of them are in order.

A round is called size here, since round is the name of a builtin.
"""


def reach(size):
    """Tell the greatest whole number that isn't above half of one less than the round."""
    return (size - 1) // 2


def ahead(size, a, b):
    """Tell how many steps on from b a is, from 0 to below the round."""
    return (a - b) % size


def is_newer(size, a, b):
    """Tell whether a is from 1 to reach steps on from b."""
    return 1 <= ahead(size, a, b) <= reach(size)


def on_from(size, a, many):
    """Tell the number that is many steps on from a."""
    return (a + many) % size


def is_far(size, a, b):
    """Tell whether a and b are unlike and neither is newer."""
    return a != b and not is_newer(size, a, b) and not is_newer(size, b, a)


def is_ring(size, a, b, c):
    """Tell whether the three go round: a newer than b, b than c, c than a."""
    return is_newer(size, a, b) and is_newer(size, b, c) and is_newer(size, c, a)


def in_order(size, numbers):
    """Tell the list of the unlike numbers, each newer than all ahead of it, or None where they aren't in order."""
    if not numbers:
        return []
    first, most = window(size, numbers)
    # Numbers within reach of one of them lie in less than half a round, where newer is simply further on;
    # and in an order all are within reach of the oldest.
    if most > reach(size):
        return None
    return [on_from(size, first, steps) for steps in sorted({ahead(size, number, first) for number in numbers})]


def bar_of(size, numbers):
    """Tell the first two that are far or, without such, the first three that go round; None where there is an order."""
    unlike = sorted(set(numbers))
    pair = first_far(size, unlike)
    if pair is not None:
        return pair
    return first_ring(size, unlike)


def first_far(size, rising):
    """Tell ("far", a, b), a below b, the first such pair of a rising list, or None."""
    for a in rising:
        for b in rising:
            if a < b and is_far(size, a, b):
                return ("far", a, b)
    return None


def first_ring(size, rising):
    """Tell ("ring", a, b, c), a the least of three that go round, the first such of a rising list, or None."""
    for a in rising:
        later = [number for number in rising if number > a]
        for b in later:
            for c in later:
                if is_ring(size, a, b, c):
                    return ("ring", a, b, c)
    return None


def window(size, numbers):
    """Tell (number, steps): the number from which all are at most steps on, the fewest, and the least such number."""
    steps, number = min([(most_ahead(size, numbers, start), start) for start in numbers])
    return (number, steps)


def most_ahead(size, numbers, start):
    """Tell how many steps on from start the one furthest on is."""
    return max([ahead(size, number, start) for number in numbers])
