"""A plain rendering of promise [16]: rows by patterns, each looked at beside all rows ahead of it, and a PlainRun."""

import re

from roundnews.trails import trail
from tests.plain import PlainRun
from tests.test_calm import plain_settled

N = "(0|[1-9][0-9]{0,11})"
F = "(0|[1-9][0-9]{0,3})"
PATTERNS = {
    "make": f"make {N} {N} {N} {N} {N}", "houses": f"houses {F}", "street": f"street {F} {F} {F}", "lose": f"lose {N}",
    "late": f"late {N} {N}", "twice": f"twice {N} {N}", "tell": f"tell {N} {N}:([ -$&-~]{{0,30}})",
    "take": f"take {N}", "fall": f"fall {N}", "down": f"down {N}", "up": f"up {N}", "step": f"step {N}",
    "held": f"held {N}", "log": f"log {N}", "settled": "settled", "trail": f"trail {N} {N}",
}
FATES = ("lose", "late", "twice")


def parsed(row):
    """(word, what stands behind it), or None where no pattern fits."""
    for word, pattern in PATTERNS.items():
        found = re.fullmatch(pattern, row)
        if found is not None:
            if word == "tell":
                return (word, int(found[1]), int(found[2]), found[3])
            return (word, *(int(number) for number in found.groups()))
    return None


def can_stand(ahead, row):
    """Whether a parsed row can stand behind the parsed rows ahead of it."""
    words = [other[0] for other in ahead]
    if len(ahead) == 0:
        return row[0] == "make" and row[1] >= 3 and min(row[2:]) >= 1
    if len(ahead) == 1:
        return row[0] == "houses" and row[1] >= 1
    houses = ahead[1][1]
    streets = [other for other in ahead if other[0] == "street"]
    if row[0] in ("make", "houses"):
        return False
    if row[0] == "street":
        return set(words[2:]) <= {"street"} and row[1] < row[2] < houses and row[3] >= 1 and all(
            row[1:3] != other[1:3] for other in streets)
    if row[0] in FATES:
        letters = [other[1] for other in ahead if other[0] in FATES]
        return set(words[2:]) <= {"street", *FATES} and row[1] not in letters and (row[0] == "lose" or row[2] >= 1)
    if row[0] in ("down", "up"):
        return row[1] < len(streets)
    if row[0] == "step":
        return 1 <= row[1] <= 300
    if row[0] == "tell":
        return row[1] < houses and row[2] == len(row[3])
    return all(house < houses for house in row[1:])


def plain_fault(text):
    """The number of the first row at fault, or None."""
    rows, ahead = text.split("\n"), []
    for place, row in enumerate(rows):
        if row:
            told = parsed(row)
            if told is None or not can_stand(ahead, told):
                return place
            ahead.append(told)
    return len(rows) if len(ahead) < 2 else None


def plain_answers(text):
    """What the asks of a right sheet are told."""
    rows = [parsed(row) for row in text.split("\n") if row]
    make, net = rows[0][1:], (rows[1][1], [row[1:] for row in rows if row[0] == "street"])
    run = PlainRun(make, net, [(row[1], (row[0], *row[2:])) for row in rows if row[0] in FATES])
    told, events = [], []
    for word, *rest in rows[2:]:
        if word == "tell":
            events.append((word, rest[0], rest[2]))
        elif word in ("take", "fall", "down", "up"):
            events.append((word, rest[0]))
        elif word == "step":
            for at in range(rest[0]):
                run.step(events if at == 0 else [])
            events = []
        elif word in ("held", "log", "settled", "trail"):
            told.append(plain_answer(run, make, net, word, rest))
    return told


def plain_answer(run, make, net, word, rest):
    if word == "held":
        rows = []
        for teller, number, age, words in run.homes[rest[0]].all_news():
            rows.append(f"{teller} {number} {age} " + ("-" if words is None else str(len(words)) + ":" + words))
        return "\n".join(rows) if rows else "-"
    if word == "log":
        rows = []
        for tick, what in run.rows:
            if what[:2] == ("told", rest[0]):
                rows.append(f"{tick} told {what[2]}")
            if what[:2] == ("took", rest[0]):
                rows.append(f"{tick} took {what[2]} {what[3][0]} {what[3][1]}")
        return "; ".join(rows) if rows else "-"
    if word == "settled":
        return "yes" if plain_settled(make, net, run.ups, [home.all_news() for home in run.homes]) else "no"
    pairs = trail(run.rows, *rest)
    return "-" if pairs is None else " ".join(f"{tick}:{house}" for tick, house in pairs)
