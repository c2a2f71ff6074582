"""When all is settled, and how long that takes at most.

Holdings are a list with for each house a list of news of unlike tellers, by rising tellers.
"""

from roundnews.nets import parts
from roundnews.news import mark_of


def is_settled(make, net, up, holdings):
    """Tell whether in each part all hold the same of each of the room least tellers of whom some house holds a news."""
    marks = [{news[0]: mark_of(news) for news in held} for held in holdings]
    return all([is_part_settled(make[3], part, marks) for part in parts(net, up)])


def calm(make, net, late):
    """Tell for how many ticks nothing need be done or told till all is settled, letters being late by at most late."""
    houses, streets = net
    greatest = max([wait for _, _, wait in streets], default=0)
    return late + make[4] + greatest * (houses + 3)


def speaks_by(make, fell, wished):
    """Tell the tick at which a house that fell at one tick speaks at the latest, having a wish since another."""
    return max(wished, fell + make[1])


def is_part_settled(room, part, marks):
    """Tell whether the houses of a part hold the same of the room least tellers."""
    tellers = sorted({teller for house in part for teller in marks[house]})
    return all([is_known_alike(teller, part, marks) for teller in tellers[:room]])


def is_known_alike(teller, part, marks):
    """Tell whether the houses of a part hold news of this teller, all of one mark; the teller itself may hold none."""
    # Some house of the part holds one, so all None is none of the ways to be alike.
    some = [marks[house].get(teller) for house in part if house != teller or teller in marks[house]]
    return len(set(some)) == 1
