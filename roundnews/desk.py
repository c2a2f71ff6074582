"""A desk: it does what the rows of a sheet tell, and answers what they ask."""

from roundnews.calm import is_settled
from roundnews.runs import Run
from roundnews.sheets import sheet_from
from roundnews.texts import news_text
from roundnews.trails import trail

EVENTS = ("tell", "take", "fall", "down", "up")
NOTHING = "-"


def answers(text):
    """Tell the list with a text for each ask of the sheet, or refuse the first row at fault with BadRow."""
    sheet = sheet_from(text)
    net = (sheet.houses, list(sheet.streets.values()))
    run = Run(sheet.make, net, list(sheet.fates.items()))
    told, events = [], []
    for act in sheet.acts:
        if act[0] in EVENTS:
            events.append(act)
        elif act[0] == "step":
            pass_ticks(run, events, act[1])
            events = []
        else:
            told.append(answer(sheet.make, net, run, act))
    return told


def pass_ticks(run, events, many):
    """Do so many ticks, one at least, the events in the first of them."""
    run.step(events)
    for _ in range(many - 1):
        run.step([])


def answer(make, net, run, ask):
    """Tell the text for one ask."""
    word = ask[0]
    if word == "held":
        return held_text(run.held(ask[1]))
    if word == "log":
        return log_text(run.log(), ask[1])
    if word == "trail":
        return trail_text(trail(run.log(), ask[1], ask[2]))
    holdings = [run.held(house) for house in range(net[0])]
    return "yes" if is_settled(make, net, run.up(), holdings) else "no"


def held_text(some):
    """Tell the texts of some news, parted by line feeds."""
    return "\n".join([news_text(news) for news in some]) or NOTHING


def log_text(log, house):
    """Tell what the house told and took in, parted by semicolons."""
    rows = []
    for tick, what in log:
        if what[1] == house and what[0] == "told":
            rows.append(f"{tick} told {what[2]}")
        if what[1] == house and what[0] == "took":
            rows.append(f"{tick} took {what[2]} {what[3][0]} {what[3][1]}")
    return "; ".join(rows) or NOTHING


def trail_text(pairs):
    """Tell a trail, or that there's none."""
    if pairs is None:
        return NOTHING
    return " ".join([f"{tick}:{house}" for tick, house in pairs])
