"""Promise [1]: what is promised of the whole, over runs of safe makes by chance.

No house falls twice within life ticks; letters get lost, come late and twice, streets go down and up.
"""

import random
import unittest

from roundnews.calm import calm, is_settled, speaks_by
from roundnews.makes import is_safe
from roundnews.nets import parts
from roundnews.runs import Run
from roundnews.trailcheck import shows_trail
from roundnews.trails import first_wrong, last_taken, trail
from tests.chances import some_fates, some_make, some_tree, some_words
from tests.plain import plain_first_wrong
from tests.test_rounds import newer

TICKS = 110


def some_events(chance, net, make, tick, fallen):
    """Events of a tick; a house that fell falls once more life ticks later at the earliest."""
    houses, streets = net
    found = []
    for _ in range(chance.choice([0, 0, 1, 1, 2, 4])):
        house = chance.randrange(houses)
        kind = chance.choice(["tell", "tell", "tell", "take", "fall", "down", "up", "up"])
        if kind == "tell":
            found.append((kind, house, some_words(chance)))
        elif kind == "take":
            found.append((kind, house))
        elif kind != "fall":
            found.append((kind, chance.randrange(len(streets))))
        elif tick >= fallen.get(house, -10 ** 6) + make[1]:
            fallen[house] = tick
            found.append((kind, house))
    # As early as may be, once more.
    for house in [house for house in fallen if tick == fallen[house] + make[1] and chance.randrange(2)]:
        fallen[house] = tick
        found.append(("fall", house))
    return found


def some_runs(seed, many):
    """(make, net, Run, steps) of runs that begin; rooms from one to more than enough."""
    chance = random.Random(seed)
    for _ in range(many):
        net = some_tree(chance, chance.randrange(2, 8), chance.randrange(5), chance.choice([1, 2, 4, 9]))
        make = some_make(chance, chance.choice([1, 2, net[0] - 1, net[0], 12]) or 1)
        fates = some_fates(chance, chance.randrange(61), 400, 40)
        fallen = {}
        steps = [some_events(chance, net, make, tick, fallen) for tick in range(TICKS)]
        yield make, net, Run(make, net, fates), steps


class Watch:
    """What is held and under way behind each tick, with the ticks at which it was told."""

    def __init__(self, make, net, run):
        self.make, self.net, self.run, self.since = make, net, run, {}

    def step(self, events):
        tick = self.run.now()
        told = self.run.step(events)
        for _, number, _, _, _ in self.run.under_way():
            self.since.setdefault(number, tick)
        return told

    def held(self):
        return [(house, news) for house in range(self.net[0]) for news in self.run.held(house)]

    def about(self):
        """All news held, and those under way that have not ended, as old as they are now."""
        now, found = self.run.now(), [news for _, news in self.held()]
        for _, number, _, _, (word, what) in self.run.under_way():
            if word == "news":
                age = what[2] + now - self.since[number]
                if age < self.make[1]:
                    found.append((what[0], what[1], age, what[3]))
        return found


class Order(unittest.TestCase):
    def test_of_all_that_is_about_the_one_told_later_is_the_newer(self):
        pairs, fallen = 0, 0
        for make, net, run, steps in some_runs(1, 60):
            self.assertTrue(is_safe(make))
            watch = Watch(make, net, run)
            for events in steps:
                fallen += sum(1 for what in watch.step(events) if what[0] == "fell")
                told = {}
                for teller, number, age, words in watch.about():
                    # One is told by a house at one tick.
                    when = (teller, run.now() - age)
                    self.assertEqual(told.setdefault(when, (number, words)), (number, words))
                for (teller, tick), (number, _) in told.items():
                    for (other, later), (other_number, _) in told.items():
                        if teller == other and tick < later:
                            self.assertTrue(newer(make[0], other_number, number))
                            pairs += 1
        self.assertGreater(pairs, 2000)
        self.assertGreater(fallen, 200)

    def test_no_house_takes_in_one_told_ahead_of_one_that_it_took_in(self):
        for make, net, run, steps in some_runs(2, 80):
            for events in steps:
                run.step(events)
            self.assertIsNone(first_wrong(run.log()))
            self.assertIsNone(plain_first_wrong(run.log()))

    def test_by_makes_that_aren_t_safe_some_do(self):
        wrong = 0
        for make, net, run, steps in some_runs(2, 80):
            run = Run((3 + make[0] // 4,) + make[1:], net, list(run.fates.items()))
            for events in steps:
                run.step(events)
            wrong += first_wrong(run.log()) is not None
        self.assertGreater(wrong, 0)


class Ends(unittest.TestCase):
    def test_what_has_ended_is_nowhere_and_doesn_t_come_back(self):
        ended = 0
        for make, net, run, steps in some_runs(3, 60):
            watch = Watch(make, net, run)
            for events in steps:
                told = watch.step(events)
                for _, (_, _, age, _) in watch.held():
                    self.assertLess(age, make[1])
                for what in told:
                    if what[0] == "took":
                        self.assertLess(what[3][2], make[1])
                    ended += what[0] == "ended"
        self.assertGreater(ended, 1000)

    def test_what_was_told_ahead_of_a_taking_back_doesn_t_come_back(self):
        backs = 0
        for make, net, run, steps in some_runs(4, 80):
            watch, back = Watch(make, net, run), {}
            for events in steps:
                tick = run.now()
                for what in watch.step(events):
                    if what[0] == "fell":
                        back = {key: told for key, told in back.items() if key[0] != what[1]}
                    if what[0] == "dropped":
                        back.pop((what[1], what[2]), None)
                    if what[0] == "took" and what[3][3] is None:
                        back[(what[1], what[3][0])] = tick - what[3][2]
                        backs += 1
                for house, (teller, _, age, _) in watch.held():
                    self.assertGreaterEqual(run.now() - age, back.get((house, teller), 0))
        self.assertGreater(backs, 100)


class Room(unittest.TestCase):
    def test_a_book_never_holds_more_than_its_room(self):
        full = 0
        for make, net, run, steps in some_runs(5, 60):
            for events in steps:
                run.step(events)
                for house in range(net[0]):
                    others = [news for news in run.held(house) if news[0] != house]
                    self.assertLessEqual(len(others), make[3])
                    full += len(others) == make[3]
        self.assertGreater(full, 2000)


class Trails(unittest.TestCase):
    def test_each_told_trail_is_taken(self):
        many = 0
        for make, net, run, steps in some_runs(6, 40):
            for at, events in enumerate(steps):
                run.step(events)
                if at % 20 == 19:
                    log = run.log()
                    for house in range(net[0]):
                        for teller in range(net[0]):
                            told = trail(log, house, teller)
                            self.assertEqual(told is None, last_taken(log, house, teller) is None)
                            if told is not None:
                                self.assertIs(shows_trail(net, log, house, teller, told), True)
                                self.assertIs(shows_trail(net, log, house, teller, told[:-1]), False)
                                many += 1
        self.assertGreater(many, 1000)


class SpeaksAnew(unittest.TestCase):
    def test_a_house_begun_anew_tells_its_first_wish_at_the_latest_life_ticks_behind(self):
        latest, earlier = 0, 0
        for make, net, run, steps in some_runs(7, 120):
            # House -> (tick of its fall, tick since which it has a wish), till it speaks.
            waiting = {}
            for events in steps:
                tick = run.now()
                for event in events:
                    if event[0] == "fall":
                        waiting[event[1]] = (tick, None)
                    elif event[0] in ("tell", "take") and event[1] in waiting:
                        fell, wished = waiting[event[1]]
                        waiting[event[1]] = (fell, tick if wished is None else wished)
                spoken = [what[1] for what in run.step(events) if what[0] == "told"]
                for house, (fell, wished) in list(waiting.items()):
                    by = None if wished is None else speaks_by(make, fell, wished)
                    if house in spoken:
                        self.assertLessEqual(tick, by)
                        latest += tick == by
                        earlier += tick < by
                        del waiting[house]
                    else:
                        self.assertTrue(by is None or tick < by)
        self.assertGreater(latest, 50)
        self.assertGreater(earlier, 50)


def falls_apart(net, up, part, teller):
    """Whether a part isn't one without the teller."""
    houses, streets = net
    left = [is_up and teller not in street[:2] for street, is_up in zip(streets, up)]
    return len([some for some in parts((houses, streets), left) if some[0] in part and some != [teller]]) > 1


def room_least(make, part, holdings):
    tellers = {news[0] for house in part for news in holdings[house]}
    return sorted(tellers)[:make[3]]


class Settled(unittest.TestCase):
    """Behind calm ticks in which nothing is done, told, lost, late or twice, and nothing ends or all have room."""

    LIVES = [(150, 150), (150, 40), (200, 9), (30, 10)]

    def check(self, make, net, run):
        up, holdings = run.up(), [run.held(house) for house in range(net[0])]
        settled = is_settled(make, net, up, holdings)
        excused = False
        for part in parts(net, up):
            tellers = room_least(make, part, holdings)
            silent = [
                house for house in part
                if house in tellers and house not in [news[0] for news in holdings[house]]
                and falls_apart(net, up, part, house)]
            for teller in [teller for teller in tellers if teller not in silent]:
                # Of all but those that are excused all hold the same, but a teller none of its own.
                news = {
                    tuple(row for row in holdings[house] if row[0] == teller) for house in part if house != teller}
                mine = tuple(row for row in holdings[teller] if row[0] == teller) if teller in part else ()
                self.assertLessEqual(len(news | ({mine} if mine else set())), 1)
            excused = excused or silent != []
        self.assertTrue(settled or excused)
        return settled, excused

    def runs(self, seed, many):
        chance = random.Random(seed)
        for _ in range(many):
            net = some_tree(chance, chance.randrange(2, 8), chance.randrange(4), chance.choice([1, 2, 3]))
            life, gap = chance.choice(self.LIVES)
            room = chance.choice([1, 2, 3, net[0], 12])
            make = (10 ** 4, life, gap, room, chance.choice([1, 4, 9, 20]))
            fates = some_fates(chance, 40, 300, 12)
            fallen = {}
            steps = [some_events(chance, net, make, tick, fallen) for tick in range(chance.randrange(5, 50))]
            yield make, net, Run(make, net, fates), steps, fates, life + 120

    def test_settled_and_stays_so(self):
        counts = {"settled": 0, "stays": 0, "excused": 0}
        for make, net, run, steps, fates, quiet in self.runs(8, 150):
            late = max([what[1] for _, what in fates if what[0] != "lose"], default=0)
            numbers = {letter for letter, _ in fates}
            for events in steps:
                run.step(events)
            # The tick from which on the calm goes, as far as it's known.
            start = run.now()
            for _ in range(quiet):
                sent, tick = run.sent(), run.now()
                told = run.step([])
                fated = any(letter in numbers for letter in range(sent, run.sent()))
                ended = any(what[0] == "ended" for what in told) and make[3] < net[0]
                if fated or ended or any(what[0] == "told" for what in told):
                    start = tick + 1
                if run.now() >= start + calm(make, net, late):
                    settled, excused = self.check(make, net, run)
                    counts["settled" if run.now() == start + calm(make, net, late) else "stays"] += settled
                    counts["excused"] += excused and not settled
        self.assertGreater(counts["settled"], 100)
        self.assertGreater(counts["stays"], 2000)

    def test_a_teller_without_news_of_its_own_keeps_its_part_from_being_settled(self):
        # House 1 falls as 0 has its news, and 2 has not; it heeds that, and hands none of it on.
        net, make = (3, [(0, 1, 1), (1, 2, 1)]), (10 ** 4, 300, 300, 3, 5)
        run = Run(make, net, [(5, ("lose",)), (7, ("lose",))])
        for tick in range(100):
            run.step([("tell", 1, "a")] if tick == 0 else [("fall", 1)] if tick == 1 else [])
        holdings = [run.held(house) for house in range(3)]
        self.assertEqual(holdings, [[(1, 0, 100, "a")], [], []])
        self.assertIs(is_settled(make, net, run.up(), holdings), False)
        # With a way around it, it goes.
        net = (3, [(0, 1, 1), (1, 2, 1), (0, 2, 1)])
        run = Run(make, net, [(7, ("lose",)), (9, ("lose",))])
        for tick in range(100):
            run.step([("tell", 1, "a")] if tick == 0 else [("fall", 1)] if tick == 1 else [])
        self.assertIs(is_settled(make, net, run.up(), [run.held(house) for house in range(3)]), True)


if __name__ == "__main__":
    unittest.main()
