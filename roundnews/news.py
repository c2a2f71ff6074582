"""News, their marks, and which of two is newer.

A news is a tuple (teller, number, age, words), its mark a tuple (teller, number, sum, age).
A round is called size here, since round is the name of a builtin.
"""

from roundnews.kinds import is_number
from roundnews.rounds import is_newer

HOUSES = 12
MOST_SIGNS = 30
BLANK = 32
PERCENT = 37
TILDE = 126
SUM_ROUND = 9973


def is_words(thing):
    """Tell whether thing is words of at most 30 signs, or None."""
    if thing is None:
        return True
    if not isinstance(thing, str) or len(thing) > MOST_SIGNS:
        return False
    return all([is_sign(ord(sign)) for sign in thing])


def is_sign(code):
    """Tell whether words may hold the sign of this code."""
    return BLANK <= code <= TILDE and code != PERCENT


def is_news(size, thing):
    """Tell whether thing is a news of this round, of a house from 0 to 11, of any age."""
    if not isinstance(thing, tuple) or len(thing) != 4:
        return False
    teller, number, age, words = thing
    if not (is_number(teller) and is_number(number) and is_number(age)):
        return False
    return 0 <= teller < HOUSES and 0 <= number < size and age >= 0 and is_words(words)


def sum_of(words):
    """Tell the sum of words: 0 of None, from 1 to 9,973 of a text."""
    if words is None:
        return 0
    total = 0
    for place, sign in enumerate(words, start=1):
        total += place * (ord(sign) - BLANK + 1)
    return 1 + total % SUM_ROUND


def mark_of(news):
    """Tell the mark (teller, number, sum, age) of a news."""
    teller, number, age, words = news
    return (teller, number, sum_of(words), age)


def newer_mark(size, one, other):
    """Tell whether one is newer than the other, two marks of one teller."""
    _, number, total, age = one
    _, other_number, other_total, other_age = other
    if number != other_number:
        return is_newer(size, number, other_number)
    if total != other_total:
        return total > other_total
    return age < other_age


def newest(size, some):
    """Tell the first news of the list than which none of them is newer, or None where they go round."""
    marks = [mark_of(news) for news in some]
    for news, mark in zip(some, marks):
        if not any([newer_mark(size, other, mark) for other in marks]):
            return news
    return None


def aged(life, news, many):
    """Tell the news many ticks older, or None where it has ended by then."""
    teller, number, age, words = news
    if age + many >= life:
        return None
    return (teller, number, age + many, words)


def alive_marks(life, marks):
    """Tell the list of those marks whose age is below life."""
    return [mark for mark in marks if mark[3] < life]


def lacked(size, some, marks):
    """Tell the list of those news of whose teller there's no mark, or than whose mark they are newer."""
    known = {mark[0]: mark for mark in marks}
    return [news for news in some if news[0] not in known or newer_mark(size, mark_of(news), known[news[0]])]
