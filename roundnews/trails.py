"""Trails: by which way a news came, told from the log of a run.

A log is a list of pairs (tick, what happened).
"""


def told_at(tick, news):
    """Tell the tick at which a news of this tick was told."""
    return tick - news[2]


def last_taken(log, house, teller):
    """Tell the last pair (tick, news) by which the house took in one of this teller behind its last fall, or None."""
    found = last_taking(log, house, teller)
    if found is None:
        return None
    tick, _, news = found
    return (tick, news)


def trail(log, house, teller):
    """Tell the list of pairs (tick, house) by which the news of last_taken came from its teller, or None."""
    last = last_taking(log, house, teller)
    if last is None:
        return None
    tick, sender, news = last
    told = told_at(tick, news)
    # By the first takings each house has it later than the one it had it from, so the way back comes to the teller.
    firsts = first_takings(log, news, told)
    back = [(tick, house)]
    while sender != teller:
        tick, before = firsts[sender]
        back.append((tick, sender))
        sender = before
    back.append((told, teller))
    return back[::-1]


def first_wrong(log):
    """Tell the place of the first news taken in that was told ahead of one that its house took in earlier, or None."""
    latest = {}
    for place, (tick, what) in enumerate(log):
        word, house = what[0], what[1]
        known = latest.setdefault(house, {})
        if word == "took":
            teller, told = what[3][0], told_at(tick, what[3])
            if told < known.get(teller, told):
                return place
            known[teller] = told
        elif word == "dropped" and what[2] in known:
            del known[what[2]]
        elif word == "fell":
            latest[house] = {}
    return None


def last_taking(log, house, teller):
    """Tell the triple (tick, neighbour, news) of last_taken, or None."""
    found = None
    for tick, what in log:
        if what == ("fell", house):
            found = None
        if what[0] == "took" and what[1] == house and what[3][0] == teller:
            found = (tick, what[2], what[3])
    return found


def first_takings(log, news, told):
    """Tell for each house that took in this news, told at this tick, the pair (tick, neighbour) of the first time."""
    firsts = {}
    for tick, what in log:
        if what[0] == "took" and is_that(news, told, tick, what[3]):
            firsts.setdefault(what[1], (tick, what[2]))
    return firsts


def is_that(news, told, tick, other):
    """Tell whether the other, a news of this tick, is of the same teller and number, and told at the tick told."""
    return other[:2] == news[:2] and told_at(tick, other) == told
