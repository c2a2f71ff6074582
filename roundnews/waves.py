"""Waves: all houses at once have from those near to them what these hold, again and again.

Holdings are a list with for each house a list of news of unlike tellers, by rising tellers.
"""

from roundnews.nets import near
from roundnews.news import lacked, mark_of


def waves(make, net, up, holdings, many):
    """Tell what the houses hold behind so many waves."""
    later, _ = spread_out(make, net, up, holdings, many)
    return later


def last_wave(make, net, up, holdings):
    """Tell the least number of waves from which on nothing changes."""
    # No way without a turn has more streets than there are houses less one, so this many are enough.
    _, many = spread_out(make, net, up, holdings, net[0])
    return many


def spread_out(make, net, up, holdings, most):
    """Tell what the houses hold behind most waves, and how many of them changed anything."""
    held = [list(some) for some in holdings]
    for many in range(most):
        later = wave(make[0], net, up, held)
        if later == held:
            return (held, many)
        held = later
    return (held, most)


def wave(size, net, up, holdings):
    """Tell what the houses hold behind one wave."""
    found = []
    for house in range(net[0]):
        others = [holdings[other] for other in near(net, up, house)]
        found.append(newest_of_each(size, [holdings[house]] + others))
    return found


def newest_of_each(size, lists):
    """Tell of each teller the newest news in the lists, of one mark the first, by rising tellers."""
    best = {}
    for some in lists:
        better = lacked(size, some, [mark_of(news) for news in list(best.values())])
        for news in better:
            best[news[0]] = news
    return [best[teller] for teller in sorted(best)]
