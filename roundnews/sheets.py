"""Sheets: a desk's text, read row by row and refused ahead of all that it asks for."""

from roundnews.errors import BadRow
from roundnews.makes import is_make
from roundnews.news import is_words
from roundnews.texts import houses_from, number_from, numbers_behind, street_from, words_from

FIGURES = 12
MOST_TICKS = 300

# Behind the net's first row no row goes behind one of a later stage.
STREETS = 0
FATES = 1
ACTS = 2

# What the numbers behind a row's word are.
FATE_FORMS = {"lose": ("letter",), "late": ("letter", "later"), "twice": ("letter", "later")}
ACT_FORMS = {
    "take": ("house",), "fall": ("house",), "down": ("street",), "up": ("street",), "step": ("ticks",),
    "held": ("house",), "log": ("house",), "settled": (), "trail": ("house", "house"),
}


class Sheet:
    """What the rows taken in so far tell; acts are events, steps and asks as tuples, events as a Run takes them."""

    def __init__(self):
        self.make = None
        self.houses = None
        self.streets = {}
        self.fates = {}
        self.acts = []
        self.stage = STREETS

    def takes(self, row):
        """Take a row in; tell whether it's so written, and can stand there."""
        if self.make is None:
            return self._takes_make(row)
        if self.houses is None:
            self.houses = houses_from(row)
            return self.houses is not None
        word = row.split(" ")[0]
        if word == "street":
            return self.stage == STREETS and self._takes_street(row)
        if word in FATE_FORMS:
            return self.stage <= FATES and self._takes_fate(word, row)
        return self._takes_act(word, row)

    def _takes_make(self, row):
        """Take in the row of the make; tell whether it's right."""
        self.make = numbers_behind("make", 5, FIGURES, row)
        return is_make(self.make)

    def _takes_street(self, row):
        """Take in a street's row; tell whether it's right."""
        street = street_from(self.houses, self.streets, row)
        if street is None:
            return False
        self.streets[street[:2]] = street
        return True

    def _takes_fate(self, word, row):
        """Take in a fate's row; tell whether it's right."""
        self.stage = FATES
        numbers = self._numbers(word, FATE_FORMS[word], row)
        if numbers is None or numbers[0] in self.fates:
            return False
        self.fates[numbers[0]] = (word,) + numbers[1:]
        return True

    def _takes_act(self, word, row):
        """Take in the row of an event, a step or an ask; tell whether it's right."""
        self.stage = ACTS
        act = self._telling(row) if word == "tell" else self._act(word, row)
        if act is None:
            return False
        self.acts.append(act)
        return True

    def _telling(self, row):
        """Tell the event of a row tell HOUSE SIGNS:words, or None where it isn't right."""
        parts = row.split(" ", 2)
        if len(parts) != 3:
            return None
        house, told = number_from(parts[1], FIGURES), words_from(parts[2])
        if not self._is_right("house", house) or told is None or not is_words(told[0]):
            return None
        return ("tell", house, told[0])

    def _act(self, word, row):
        """Tell the event, the step or the ask of a row that has numbers alone, or None where it isn't right."""
        if word not in ACT_FORMS:
            return None
        numbers = self._numbers(word, ACT_FORMS[word], row)
        if numbers is None:
            return None
        return (word,) + numbers

    def _numbers(self, word, forms, row):
        """Tell the numbers behind a row's word, or None where one of them can't be."""
        numbers = numbers_behind(word, len(forms), FIGURES, row)
        if numbers is None or not all([self._is_right(form, number) for form, number in zip(forms, numbers)]):
            return None
        return numbers

    def _is_right(self, form, number):
        """Tell whether a number, None where there is none, can be what form tells."""
        if number is None:
            return False
        if form == "house":
            return number < self.houses
        if form == "street":
            return number < len(self.streets)
        if form == "ticks":
            return 1 <= number <= MOST_TICKS
        return form == "letter" or number >= 1


def sheet_from(text):
    """Tell the Sheet of a text, or refuse the first row at fault with BadRow."""
    sheet = Sheet()
    rows = text.split("\n")
    for place, row in enumerate(rows):
        if row != "" and not sheet.takes(row):
            raise BadRow(place)
    if sheet.houses is None:
        raise BadRow(len(rows))
    return sheet
