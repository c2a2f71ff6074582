"""Texts of news and of nets, and what they tell."""

from roundnews.errors import BadRow, BadText
from roundnews.nets import is_street
from roundnews.news import is_news

NEWS_FIGURES = 12
NET_FIGURES = 4


def news_text(news):
    """Tell the text of a news."""
    teller, number, age, words = news
    told = "-" if words is None else f"{len(words)}:{words}"
    return f"{teller} {number} {age} {told}"


def news_from(size, text):
    """Tell the news of this round that's written in the text, or refuse it with BadText."""
    parts = text.split(" ", 3)
    if len(parts) != 4:
        raise BadText("a news' text has four parts")
    numbers = tuple([number_from(part, NEWS_FIGURES) for part in parts[:3]])
    told = (None,) if parts[3] == "-" else words_from(parts[3])
    if told is None:
        raise BadText("its words aren't as many signs as it tells")
    news = numbers + told
    if not is_news(size, news):
        raise BadText("it's no news of the round")
    return news


def net_text(net):
    """Tell the text of a net."""
    houses, streets = net
    rows = [f"street {one} {other} {wait}" for one, other, wait in streets]
    return "\n".join([f"houses {houses}"] + rows)


def net_from(text):
    """Tell the net that's written in the text, or refuse the first row at fault with BadRow."""
    first, *rows = text.split("\n")
    houses = houses_from(first)
    if houses is None:
        raise BadRow(0)
    streets = {}
    for place, row in enumerate(rows, start=1):
        street = street_from(houses, streets, row)
        if street is None:
            raise BadRow(place)
        streets[street[:2]] = street
    return (houses, list(streets.values()))


def houses_from(row):
    """Tell how many houses a net's first row tells, or None where it isn't so written."""
    numbers = numbers_behind("houses", 1, NET_FIGURES, row)
    if numbers is None or numbers[0] < 1:
        return None
    return numbers[0]


def street_from(houses, streets, row):
    """Tell the street that a row tells, or None where it isn't so written or can't be beside streets, told by pairs."""
    numbers = numbers_behind("street", 3, NET_FIGURES, row)
    if not is_street(houses, numbers) or numbers[:2] in streets:
        return None
    return numbers


def numbers_behind(word, many, figures, row):
    """Tell the tuple of so many numbers that a row has behind this word, or None where it isn't so written."""
    first, *parts = row.split(" ")
    numbers = tuple([number_from(part, figures) for part in parts])
    if first != word or len(numbers) != many or None in numbers:
        return None
    return numbers


def number_from(text, figures):
    """Tell the number that's written in plain figures, at most so many, or None where it isn't so written."""
    if not text.isascii() or not text.isdigit() or len(text) > figures:
        return None
    number = int(text)
    # A nought ahead is in no number's own text.
    return number if str(number) == text else None


def words_from(text):
    """Tell the tuple of the words alone that are written as SIGNS:words, or None where it isn't so written."""
    signs, colon, words = text.partition(":")
    if colon == "" or number_from(signs, NEWS_FIGURES) != len(words):
        return None
    return (words,)
