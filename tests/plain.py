"""Plain renderings of the document's words, to compare the program with; slow, and built another way."""

from tests.test_news import plain_newer, plain_sum
from tests.test_rounds import newer


def mark(news):
    return (news[0], news[1], plain_sum(news[3]), news[2])


class PlainBook:
    """A book as one list of news in any order."""

    def __init__(self, make, own, rows=()):
        self.make, self.own, self.rows = make, own, list(rows)

    def of(self, teller):
        return next((news for news in self.rows if news[0] == teller), None)

    def put(self, news):
        self.rows = [row for row in self.rows if row[0] != news[0]] + [news]

    def take(self, news):
        size, life, _, room, _ = self.make
        mine = self.of(news[0])
        if self.own == news[0]:
            return ("own", None)
        if news[2] >= life:
            return ("ended", None)
        if mine is not None and mark(mine) == mark(news):
            return ("same", None)
        if mine is not None and not plain_newer(size, mark(news), mark(mine)):
            return ("older", None)
        if mine is not None:
            self.put(news)
            return ("newer", None)
        if len(self.rows) == room and all(row[0] < news[0] for row in self.rows):
            return ("full", None)
        self.put(news)
        gone = None
        if len(self.rows) > room:
            gone = max(row[0] for row in self.rows)
            self.rows.remove(self.of(gone))
        return ("new", gone)

    def tick(self, many):
        life = self.make[1]
        ended = []
        for passed in range(many):
            self.rows = [(teller, number, age + 1, words) for teller, number, age, words in self.rows]
            ended += sorted(news[0] for news in self.rows if news[2] == life)
            self.rows = [news for news in self.rows if news[2] != life]
        return ended

    def held(self):
        return sorted(self.rows, key=lambda news: news[0])

    def better(self, marks):
        size, life = self.make[:2]
        found = []
        for news in self.held():
            theirs = [other for other in marks if other[0] == news[0] and other[3] < life]
            if not theirs or plain_newer(size, mark(news), theirs[0]):
                found.append(news)
        return found

    def wanted(self, some):
        """Of news, not of marks: which of them a book just like this one would take in."""
        words = {news[0]: PlainBook(self.make, self.own, self.rows).take(news)[0] for news in some}
        return sorted(teller for teller, word in words.items() if word in ("newer", "new"))


class PlainHouse:
    """A house with a clock of its own, and its own news beside a PlainBook."""

    def __init__(self, house, make, hush):
        self.house, self.make = house, make
        self.clock, self.hush_ends, self.spoke = 0, hush, None
        self.book = PlainBook(make, house)
        self.near, self.wishes, self.mine, self.last = [], [], [], None

    def join(self, neighbour):
        self.near = [house for house in self.near if house != neighbour] + [neighbour]

    def part(self, neighbour):
        self.near = [house for house in self.near if house != neighbour]

    def wish(self, words):
        self.wishes = [words]

    def all_news(self):
        return sorted(self.book.rows + self.mine, key=lambda news: news[0])

    def to_all(self, letter, but=()):
        return [(neighbour, letter) for neighbour in sorted(self.near) if neighbour not in but]

    def speak(self):
        size, _, gap = self.make[:3]
        if not self.wishes or (self.last is None and self.clock < self.hush_ends):
            return []
        if self.spoke is not None and self.clock < self.spoke + gap:
            return []
        self.last = 0 if self.last in (None, size - 1) else self.last + 1
        self.mine = [(self.house, self.last, 0, self.wishes.pop())]
        self.spoke = self.clock
        return self.to_all(("news", self.mine[0]))

    def lists(self):
        return self.to_all(("list", tuple(mark(news) for news in self.all_news())))

    def tick(self):
        self.clock += 1
        ended = self.book.tick(1)
        for teller, number, age, words in self.mine:
            if age + 1 < self.make[1]:
                self.mine = [(teller, number, age + 1, words)]
            else:
                self.mine = []
                ended.append(teller)
        return sorted(ended)

    def wants_number(self, number):
        return self.last is None or newer(self.make[0], number, self.last)

    def hear_news(self, neighbour, news):
        size, life, gap = self.make[:3]
        if news[0] == self.house:
            if news[2] >= life:
                return ([], [])
            if self.wants_number(news[1]):
                self.last = news[1]
                for _ in range(gap, life, gap):
                    self.last = 0 if self.last == size - 1 else self.last + 1
                self.wishes = self.wishes or [own[3] for own in self.mine]
                return ([("heeded", self.last)], [])
            return ([], [(neighbour, ("news", own)) for own in self.mine if plain_newer(size, mark(own), mark(news))])
        word, gone = self.book.take(news)
        if word == "older":
            return ([], [(neighbour, ("news", self.book.of(news[0])))])
        if word not in ("newer", "new"):
            return ([], [])
        dropped = [] if gone is None else [("dropped", gone)]
        return ([("took", neighbour, news)] + dropped, self.to_all(("news", news), (neighbour,)))

    def hear_list(self, neighbour, some):
        """A list of the marks of some news."""
        size, life = self.make[:2]
        marks = tuple(mark(news) for news in some)
        mine = PlainBook(self.make, None, self.mine).better(marks)
        better = sorted(self.book.better(marks) + mine, key=lambda news: news[0])
        want = self.book.wanted(some)
        want += [news[0] for news in some if news[0] == self.house and news[2] < life and self.wants_number(news[1])]
        letters = [("news", news) for news in better] + [("want", tuple(sorted(want)))] * (want != [])
        return ([], [(neighbour, letter) for letter in letters])

    def hear_want(self, neighbour, tellers):
        return ([], [(neighbour, ("news", news)) for news in self.all_news() if news[0] in tellers])
