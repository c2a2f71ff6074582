"""A small checker of what trails.py tells; it searches nothing."""

from roundnews.kinds import is_number
from roundnews.trails import is_that, last_taken, told_at


def shows_trail(net, log, house, teller, thing):
    """Tell whether thing is a list of pairs (tick, house) by which the news of last_taken came from its teller."""
    last = last_taken(log, house, teller)
    if last is None or not is_list_of_pairs(thing):
        return False
    tick, news = last
    told = told_at(tick, news)
    if thing[0] != (told, teller) or thing[-1] != (tick, house):
        return False
    if (told, ("told", teller, news[1], news[3])) not in log:
        return False
    waits = {(one, other): wait for one, other, wait in net[1]}
    takings = takings_of(log, news, told)
    return all([is_step(waits, takings, before, behind) for before, behind in zip(thing, thing[1:])])


def is_list_of_pairs(thing):
    """Tell whether thing is a list of pairs of numbers, one at least."""
    if not isinstance(thing, list) or thing == []:
        return False
    return all([is_pair(part) for part in thing])


def is_pair(thing):
    """Tell whether thing is a pair of numbers."""
    return isinstance(thing, tuple) and len(thing) == 2 and all([is_number(part) for part in thing])


def is_step(waits, takings, before, behind):
    """Tell whether the news went from one pair to the next, by a street and no faster than it leads."""
    tick, one = before
    later, other = behind
    wait = waits.get((min(one, other), max(one, other)))
    return wait is not None and later >= tick + wait and (later, other, one) in takings


def takings_of(log, news, told):
    """Tell the dict of triples (tick, house, neighbour), one for each taking in of this news, told at this tick."""
    return {
        (tick, what[1], what[2]): True for tick, what in log
        if what[0] == "took" and is_that(news, told, tick, what[3])
    }
