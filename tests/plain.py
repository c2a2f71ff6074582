"""Plain renderings of the document's words, to compare the program with; slow, and built another way."""

from tests.test_news import plain_newer, plain_sum
from tests.test_rounds import newer


def mark(news):
    return (news[0], news[1], plain_sum(news[3]), news[2])


class PlainBook:
    """A book as one list of news in any order."""

    def __init__(self, make, own, rows=()):
        self.make, self.own, self.rows = make, own, list(rows)

    def of(self, teller):
        return next((news for news in self.rows if news[0] == teller), None)

    def put(self, news):
        self.rows = [row for row in self.rows if row[0] != news[0]] + [news]

    def take(self, news):
        size, life, _, room, _ = self.make
        mine = self.of(news[0])
        if self.own == news[0]:
            return ("own", None)
        if news[2] >= life:
            return ("ended", None)
        if mine is not None and mark(mine) == mark(news):
            return ("same", None)
        if mine is not None and not plain_newer(size, mark(news), mark(mine)):
            return ("older", None)
        if mine is not None:
            self.put(news)
            return ("newer", None)
        if len(self.rows) == room and all(row[0] < news[0] for row in self.rows):
            return ("full", None)
        self.put(news)
        gone = None
        if len(self.rows) > room:
            gone = max(row[0] for row in self.rows)
            self.rows.remove(self.of(gone))
        return ("new", gone)

    def tick(self, many):
        life = self.make[1]
        ended = []
        for passed in range(many):
            self.rows = [(teller, number, age + 1, words) for teller, number, age, words in self.rows]
            ended += sorted(news[0] for news in self.rows if news[2] == life)
            self.rows = [news for news in self.rows if news[2] != life]
        return ended

    def held(self):
        return sorted(self.rows, key=lambda news: news[0])

    def better(self, marks):
        size, life = self.make[:2]
        found = []
        for news in self.held():
            theirs = [other for other in marks if other[0] == news[0] and other[3] < life]
            if not theirs or plain_newer(size, mark(news), theirs[0]):
                found.append(news)
        return found

    def wanted(self, some):
        """Of news, not of marks: which of them a book just like this one would take in."""
        words = {news[0]: PlainBook(self.make, self.own, self.rows).take(news)[0] for news in some}
        return sorted(teller for teller, word in words.items() if word in ("newer", "new"))


class PlainHouse:
    """A house with a clock of its own, and its own news beside a PlainBook."""

    def __init__(self, house, make, hush):
        self.house, self.make = house, make
        self.clock, self.hush_ends, self.spoke = 0, hush, None
        self.book = PlainBook(make, house)
        self.near, self.wishes, self.mine, self.last = [], [], [], None

    def join(self, neighbour):
        self.near = [house for house in self.near if house != neighbour] + [neighbour]

    def part(self, neighbour):
        self.near = [house for house in self.near if house != neighbour]

    def wish(self, words):
        self.wishes = [words]

    def all_news(self):
        return sorted(self.book.rows + self.mine, key=lambda news: news[0])

    def to_all(self, letter, but=()):
        return [(neighbour, letter) for neighbour in sorted(self.near) if neighbour not in but]

    def speak(self):
        size, _, gap = self.make[:3]
        if not self.wishes or (self.last is None and self.clock < self.hush_ends):
            return []
        if self.spoke is not None and self.clock < self.spoke + gap:
            return []
        self.last = 0 if self.last in (None, size - 1) else self.last + 1
        self.mine = [(self.house, self.last, 0, self.wishes.pop())]
        self.spoke = self.clock
        return self.to_all(("news", self.mine[0]))

    def lists(self):
        return self.to_all(("list", tuple(mark(news) for news in self.all_news())))

    def tick(self):
        self.clock += 1
        ended = self.book.tick(1)
        for teller, number, age, words in self.mine:
            if age + 1 < self.make[1]:
                self.mine = [(teller, number, age + 1, words)]
            else:
                self.mine = []
                ended.append(teller)
        return sorted(ended)

    def wants_number(self, number):
        return self.last is None or newer(self.make[0], number, self.last)

    def hear_news(self, neighbour, news):
        size, life, gap = self.make[:3]
        if news[0] == self.house:
            if news[2] >= life:
                return ([], [])
            if self.wants_number(news[1]):
                self.last = news[1]
                for _ in range(gap, life, gap):
                    self.last = 0 if self.last == size - 1 else self.last + 1
                self.wishes = self.wishes or [own[3] for own in self.mine]
                return ([("heeded", self.last)], [])
            return ([], [(neighbour, ("news", own)) for own in self.mine if plain_newer(size, mark(own), mark(news))])
        word, gone = self.book.take(news)
        if word == "older":
            return ([], [(neighbour, ("news", self.book.of(news[0])))])
        if word not in ("newer", "new"):
            return ([], [])
        dropped = [] if gone is None else [("dropped", gone)]
        return ([("took", neighbour, news)] + dropped, self.to_all(("news", news), (neighbour,)))

    def hear_list(self, neighbour, some):
        """A list of the marks of some news."""
        size, life = self.make[:2]
        marks = tuple(mark(news) for news in some)
        mine = PlainBook(self.make, None, self.mine).better(marks)
        better = sorted(self.book.better(marks) + mine, key=lambda news: news[0])
        want = self.book.wanted(some)
        want += [news[0] for news in some if news[0] == self.house and news[2] < life and self.wants_number(news[1])]
        letters = [("news", news) for news in better] + [("want", tuple(sorted(want)))] * (want != [])
        return ([], [(neighbour, letter) for letter in letters])

    def hear_want(self, neighbour, tellers):
        return ([], [(neighbour, ("news", news)) for news in self.all_news() if news[0] in tellers])


class PlainRun:
    """A run that keeps every letter that ever set out, and at which ticks it's still to be there.

    Lists of marks are kept as the news of those marks, and shown as marks.
    """

    def __init__(self, make, net, fates):
        self.make, (self.many, self.streets), self.fates = make, net, list(fates)
        self.homes = [self.joined(PlainHouse(house, make, 0), [True] * len(net[1])) for house in range(net[0])]
        self.ups = [True] * len(self.streets)
        self.tick, self.letters, self.rows = 0, [], []

    def joined(self, home, ups):
        for (one, other, _), is_up in zip(self.streets, ups):
            if is_up and home.house in (one, other):
                home.join(other if home.house == one else one)
        return home

    def send(self, house, neighbour, letter):
        (street, wait), = [
            (at, row[2]) for at, row in enumerate(self.streets) if {house, neighbour} == {row[0], row[1]}
        ]
        due = [self.tick + wait]
        for number, what in self.fates:
            if number == len(self.letters):
                due = {"lose": [], "late": [due[0] + what[-1]] if what[0] == "late" else []}.get(what[0], due)
                if what[0] == "twice":
                    due = due + [due[0] + what[1]]
        self.letters.append({"street": street, "ends": (house, neighbour), "what": letter, "at": self.tick, "due": due})

    def send_list(self, house, neighbours=None):
        home = self.homes[house]
        for neighbour in sorted(home.near) if neighbours is None else neighbours:
            self.send(house, neighbour, ("list", home.all_news()))

    def hear(self, letter):
        sender, house = letter["ends"]
        word, what = letter["what"]
        passed = self.tick - letter["at"]
        home = self.homes[house]
        if word == "want":
            return home.hear_want(sender, what)
        older = [(news[0], news[1], news[2] + passed, news[3]) for news in ([what] if word == "news" else what)]
        return home.hear_news(sender, older[0]) if word == "news" else home.hear_list(sender, older)

    def step(self, events):
        told = []
        for letter in list(self.letters):
            if self.tick in letter["due"]:
                letter["due"].remove(self.tick)
                happened, mailing = self.hear(letter)
                told += [(row[0], letter["ends"][1], *row[1:]) for row in happened]
                for neighbour, answer in mailing:
                    self.send(letter["ends"][1], neighbour, answer)
        for event in events:
            told += self.do(*event)
        if self.tick in range(0, self.tick + 1, self.make[4]):
            for house in range(self.many):
                self.send_list(house)
        told += self.end_tick()
        self.rows += [(self.tick, row) for row in told]
        self.tick += 1
        return told

    def do(self, word, number, words=None):
        if word in ("tell", "take"):
            self.homes[number].wish(words)
        if word == "fall":
            self.homes[number] = self.joined(PlainHouse(number, self.make, self.make[1]), self.ups)
            self.send_list(number)
            return [("fell", number)]
        if word in ("down", "up") and self.ups[number] is not (word == "up"):
            one, other, _ = self.streets[number]
            self.ups[number] = word == "up"
            if word == "up":
                self.homes[one].join(other)
                self.homes[other].join(one)
                self.send_list(one, [other])
                self.send_list(other, [one])
            else:
                self.homes[one].part(other)
                self.homes[other].part(one)
                for letter in self.letters:
                    letter["due"] = [] if letter["street"] == number else letter["due"]
        return []

    def end_tick(self):
        told = []
        for house, home in enumerate(self.homes):
            wishes = len(home.wishes)
            for neighbour, letter in home.speak():
                self.send(house, neighbour, letter)
            if wishes > len(home.wishes):
                told.append(("told", house, home.last, home.mine[0][3]))
        for house, home in enumerate(self.homes):
            told += [("ended", house, teller) for teller in home.tick()]
        return told

    def under_way(self):
        found = []
        for number, letter in enumerate(self.letters):
            word, what = letter["what"]
            shown = (word, tuple(mark(news) for news in what)) if word == "list" else (word, what)
            found += [(due, number, *letter["ends"], shown) for due in letter["due"]]
        return sorted(found, key=lambda row: (row[0], row[1]))

    def shown(self):
        """All that a Run's methods tell, but step."""
        return (
            self.tick, self.rows, [home.all_news() for home in self.homes], [home.last for home in self.homes],
            self.ups, len(self.letters), self.under_way())


def plain_last_taken(log, house, teller):
    """From the last one back to the house's last fall."""
    for tick, what in reversed(log):
        if what[:2] == ("fell", house):
            return None
        if what[:2] == ("took", house) and what[3][0] == teller:
            return (tick, what[3])
    return None


def plain_first_wrong(log):
    """For each place, the rows ahead of it that count."""
    for place, (tick, what) in enumerate(log):
        if what[0] != "took":
            continue
        house, teller = what[1], what[3][0]
        cuts = [at for at in range(place) if log[at][1] in (("fell", house), ("dropped", house, teller))]
        for at in range(max(cuts, default=0), place):
            other = log[at][1]
            if other[:2] == ("took", house) and other[3][0] == teller:
                if tick - what[3][2] < log[at][0] - other[3][2]:
                    return place
    return None


def plain_shows_trail(net, log, house, teller, thing):
    """Whether a list of pairs of numbers is such a trail."""
    last_tick, (_, number, age, words) = plain_last_taken(log, house, teller)
    told = last_tick - age
    if thing[0] != (told, teller) or thing[-1] != (last_tick, house):
        return False
    if (told, ("told", teller, number, words)) not in log:
        return False
    for (tick, one), (later, other) in zip(thing, thing[1:]):
        waits = [street[2] for street in net[1] if {one, other} == {street[0], street[1]}]
        if not waits or later < tick + waits[0]:
            return False
        news = [(teller, number, later - told, words)]
        if not any(row == (later, ("took", other, one, news[0])) for row in log):
            return False
    return True
