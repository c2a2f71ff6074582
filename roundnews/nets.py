"""Nets: houses with streets between them, and how far it is along those that are up.

A net is a pair (houses, streets), a street a tuple (one, other, wait); up tells of each street whether it's up.
"""

from heapq import heappop, heappush

from roundnews.kinds import is_number


def is_net(thing):
    """Tell whether thing is a net, however great it is."""
    if not isinstance(thing, tuple) or len(thing) != 2:
        return False
    houses, streets = thing
    if not is_number(houses) or houses < 1 or not isinstance(streets, list):
        return False
    if not all([is_street(houses, street) for street in streets]):
        return False
    return len({street[:2] for street in streets}) == len(streets)


def is_street(houses, thing):
    """Tell whether thing is a street between two of so many houses."""
    if not isinstance(thing, tuple) or len(thing) != 3:
        return False
    if not all([is_number(part) for part in thing]):
        return False
    one, other, wait = thing
    return 0 <= one < other < houses and wait >= 1


def near(net, up, house):
    """Tell the rising list of the houses to which a street that's up leads from this one."""
    return sorted([neighbour for neighbour, _ in ways(net, up, house)])


def parts(net, up):
    """Tell the rising lists of houses that hang together by streets that are up, by rising first ones."""
    found, placed = [], {}
    for house in range(net[0]):
        if house not in placed:
            part = reached(net, up, house)
            found.append(part)
            for other in part:
                placed[other] = True
    return found


def far(net, up, house):
    """Tell of each house the least sum of waits along streets that are up, None where none lead there."""
    sums = [None] * net[0]
    queue = [(0, house)]
    while queue:
        total, nearest = heappop(queue)
        if sums[nearest] is None:
            sums[nearest] = total
            for neighbour, wait in ways(net, up, nearest):
                heappush(queue, (total + wait, neighbour))
    return sums


def hops(net, up, house):
    """Tell of each house the least number of streets that are up, None where none lead there."""
    houses, streets = net
    return far((houses, [(one, other, 1) for one, other, _ in streets]), up, house)


def ways(net, up, house):
    """Tell the list of pairs (neighbour, wait), one for each street that's up and ends at this house."""
    found = []
    for (one, other, wait), is_up in zip(net[1], up):
        if is_up and house in (one, other):
            found.append((one + other - house, wait))
    return found


def reached(net, up, house):
    """Tell the rising list of the houses to which streets that are up lead from this one, itself too."""
    return [other for other, total in enumerate(far(net, up, house)) if total is not None]
