"""Houses: they tell, hear, ask for what they lack, and begin anew without their number.

A letter is ("news", news), ("list", marks) or ("want", tellers); a mailing a list of pairs (neighbour, letter).
"""

from roundnews.books import Book, is_taken
from roundnews.makes import jump
from roundnews.news import aged, alive_marks, lacked, mark_of, newer_mark
from roundnews.rounds import is_newer, on_from


class House:
    """A house, and what it has; a hush above 0 keeps it from beginning at 0 as long as its old news may be about."""

    def __init__(self, house, make, hush):
        self.house = house
        self.make = make
        self.size, self.life, self.gap, _, _ = make
        self.hush = hush
        self.book = Book(make, house)
        self.joined = {}
        self.last_number = None
        self.own_news = None
        # None or a tuple of the words alone, since None may be wished, too.
        self.wished = None
        self.since_spoken = None

    def join(self, neighbour):
        """Have this house as a neighbour."""
        self.joined[neighbour] = True

    def part(self, neighbour):
        """Have this house as a neighbour no more."""
        if neighbour in self.joined:
            del self.joined[neighbour]

    def wish(self, words):
        """Wish to tell these words, or None, in the place of another wish."""
        self.wished = (words,)

    def speak(self):
        """Tell the wish, where there is one and the house may speak; tell the mailing of the news."""
        if self.wished is None or not self._may_speak():
            return []
        self.last_number = self._next_number()
        self.own_news = (self.house, self.last_number, 0, self.wished[0])
        self.wished = None
        self.since_spoken = 0
        return to_each(self.neighbours(), ("news", self.own_news))

    def lists(self):
        """Tell the mailing of the marks of all news that it has, to all neighbours."""
        marks = tuple([mark_of(news) for news in self.held()])
        return to_each(self.neighbours(), ("list", marks))

    def hear(self, neighbour, letter):
        """Hear a letter of this neighbour; tell the pair (happened, mailing)."""
        kind, what = letter
        if kind == "list":
            return ([], self._answer_list(neighbour, what))
        if kind == "want":
            return ([], news_to(neighbour, [news for news in self.held() if news[0] in what]))
        if what[0] == self.house:
            return self._hear_own(neighbour, what)
        return self._hear_other(neighbour, what)

    def tick(self):
        """Let a tick pass; tell the rising list of the tellers whose news has ended, itself too."""
        ended = self.book.tick(1)
        if self.own_news is not None:
            self.own_news = aged(self.life, self.own_news, 1)
            if self.own_news is None:
                ended.append(self.house)
        if self.hush > 0:
            self.hush -= 1
        if self.since_spoken is not None:
            self.since_spoken += 1
        return sorted(ended)

    def number(self):
        """Tell its number, or None."""
        return self.last_number

    def own(self):
        """Tell its own news, or None."""
        return self.own_news

    def has_wish(self):
        """Tell whether it has a wish."""
        return self.wished is not None

    def neighbours(self):
        """Tell the rising list of its neighbours."""
        return sorted(self.joined)

    def held(self):
        """Tell the list of all news that it has, its own too, by rising tellers."""
        found = self.book.held()
        if self.own_news is not None:
            found.append(self.own_news)
        return sorted(found, key=lambda news: news[0])

    def _may_speak(self):
        """Tell whether its next number is known, and its last telling gap ticks ago or more."""
        if self.last_number is None and self.hush > 0:
            return False
        return self.since_spoken is None or self.since_spoken >= self.gap

    def _next_number(self):
        """Tell the number that it tells next."""
        if self.last_number is None:
            return 0
        return on_from(self.size, self.last_number, 1)

    def _is_behind(self, number):
        """Tell whether a news of its own of this number bars its next number from being the newest."""
        return self.last_number is None or is_newer(self.size, number, self.last_number)

    def _heed(self, number):
        """Go on behind this number of its own, and behind all that may be about beside it."""
        self.last_number = on_from(self.size, number, jump(self.make) - 1)
        # Its own news is the older now to those that hold what was heeded, so it's told again.
        if self.own_news is not None and self.wished is None:
            self.wished = (self.own_news[3],)

    def _hear_own(self, neighbour, news):
        """Hear a news that it told itself, maybe ahead of a fall."""
        _, number, age, _ = news
        if age >= self.life:
            return ([], [])
        if self._is_behind(number):
            self._heed(number)
            return ([("heeded", self.last_number)], [])
        if self.own_news is not None and newer_mark(self.size, mark_of(self.own_news), mark_of(news)):
            return ([], news_to(neighbour, [self.own_news]))
        return ([], [])

    def _hear_other(self, neighbour, news):
        """Hear another one's news."""
        word, gone = self.book.take(news)
        if word == "older":
            return ([], news_to(neighbour, [self.book.news_of(news[0])]))
        if not is_taken(word):
            return ([], [])
        happened = [("took", neighbour, news)]
        if gone is not None:
            happened.append(("dropped", gone))
        others = [house for house in self.neighbours() if house != neighbour]
        return (happened, to_each(others, ("news", news)))

    def _answer_list(self, neighbour, marks):
        """Tell the mailing to a neighbour that has news of these marks: what it lacks, then what is wanted of it."""
        alive = alive_marks(self.life, marks)
        mailing = news_to(neighbour, lacked(self.size, self.held(), alive))
        tellers = self.book.wanted(alive)
        if any([mark[0] == self.house and self._is_behind(mark[1]) for mark in alive]):
            tellers.append(self.house)
        if tellers:
            mailing.append((neighbour, ("want", tuple(sorted(tellers)))))
        return mailing


def to_each(neighbours, letter):
    """Tell the mailing of one letter to each of these neighbours."""
    return [(neighbour, letter) for neighbour in neighbours]


def news_to(neighbour, some):
    """Tell the mailing of these news to one neighbour, each in a letter."""
    return [(neighbour, ("news", news)) for news in some]
