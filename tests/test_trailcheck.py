"""Promise [13], the checker of trails: what it takes and what it doesn't."""

import copy
import random
import unittest

from roundnews.trailcheck import shows_trail
from roundnews.trails import last_taken, trail
from tests.chances import run_of, some_event, some_fates, some_make, some_tree
from tests.plain import plain_last_taken, plain_shows_trail
from tests.things import deep, odd_things

MAKE = (15, 20, 3, 4, 60)
LINE = (4, [(0, 1, 3), (1, 2, 2), (0, 3, 1)])
RUN = run_of(MAKE, LINE, [], [[]] * 5 + [[("tell", 0, "a")]] + [[]] * 6)
RIGHT = [(5, 0), (8, 1), (10, 2)]

# House 3 has it by two ways: at tick 6 from 1, and behind its fall from 2, which sends it back.
ROUND = (4, [(0, 1, 1), (1, 2, 1), (2, 3, 1), (1, 3, 1)])


def all_ways(net, log, house, teller):
    """All lists that are such a trail, by search; each rises in ticks, so they end."""
    last = plain_last_taken(log, house, teller)
    if last is None:
        return []
    tick, news = last
    rows = [
        (when, what[1], what[2]) for when, what in log
        if what[0] == "took" and what[3][:2] == news[:2] and when - what[3][2] == tick - news[2]]
    waits = {(one, other): wait for one, other, wait in net[1]}
    waits.update({(other, one): wait for one, other, wait in net[1]})
    found, open_ways = [], [[(tick - news[2], teller)]]
    while open_ways:
        way = open_ways.pop()
        if way[-1] == (tick, house):
            found.append(way)
        for when, taker, giver in rows:
            if giver == way[-1][1] and when >= way[-1][0] + waits[(giver, taker)]:
                open_ways.append(way + [(when, taker)])
    return found


class ShowsTrail(unittest.TestCase):
    def shows(self, thing, house=2, teller=0):
        return shows_trail(LINE, RUN.log(), house, teller, thing)

    def test_what_trail_tells(self):
        self.assertEqual(trail(RUN.log(), 2, 0), RIGHT)
        self.assertIs(self.shows(RIGHT), True)
        self.assertIs(self.shows([(5, 0), (8, 1)], 1), True)
        self.assertIs(self.shows([(5, 0), (6, 3)], 3), True)

    def test_of_another_house_or_teller(self):
        for house, teller in ((0, 0), (1, 0), (3, 0), (2, 1), (2, 2), (2, 3), (0, 2), (11, 0)):
            self.assertIs(self.shows(RIGHT, house, teller), False)
        self.assertIs(shows_trail(LINE, [], 2, 0, RIGHT), False)
        self.assertIs(shows_trail(LINE, [], 2, 0, None), False)

    def test_one_off_in_tick_or_house(self):
        for place in range(3):
            for part in range(2):
                for more in (-1, 1, 3, 10 ** 15):
                    wrong = [list(pair) for pair in RIGHT]
                    wrong[place][part] += more
                    self.assertIs(self.shows([tuple(pair) for pair in wrong]), False, wrong)

    def test_left_out_twice_or_exchanged(self):
        wrong = [[]]
        for place in range(3):
            wrong.append(RIGHT[:place] + RIGHT[place + 1:])
            wrong.append(RIGHT[:place] + [RIGHT[place]] + RIGHT[place:])
            for other in range(place):
                some = list(RIGHT)
                some[place], some[other] = some[other], some[place]
                wrong.append(some)
            wrong.append([pair[::-1] if at == place else pair for at, pair in enumerate(RIGHT)])
        wrong += [RIGHT + [(12, 1)], [(2, 3)] + RIGHT, RIGHT[:1], RIGHT[-1:], RIGHT + RIGHT, RIGHT[::-1]]
        # Another house's way, and back and forth.
        wrong += [[(5, 0), (6, 3)], [(5, 0), (6, 3), (8, 1), (10, 2)], [(5, 0), (8, 1), (10, 2), (12, 1), (10, 2)]]
        for thing in wrong:
            self.assertIs(self.shows(thing), False, thing)

    def test_lists_for_tuples_and_tuples_for_lists(self):
        for thing in (
                tuple(RIGHT), [list(pair) for pair in RIGHT], [list(RIGHT[0])] + RIGHT[1:], RIGHT[:2] + [[10, 2]],
                [RIGHT], (RIGHT,), [RIGHT[0], [RIGHT[1]], RIGHT[2]], ((5, 0), (8, 1), (10, 2))):
            self.assertIs(self.shows(thing), False, thing)

    def test_truths_and_texts_for_numbers(self):
        # A run in which ticks and houses are 0 and 1.
        run = run_of((15, 10, 3, 4, 60), (2, [(0, 1, 1)]), [], [[("tell", 0, "a")], []])
        log, net = run.log(), (2, [(0, 1, 1)])
        self.assertIs(shows_trail(net, log, 1, 0, [(0, 0), (1, 1)]), True)
        for thing in (
                [(False, 0), (1, 1)], [(0, False), (1, 1)], [(0, 0), (True, 1)], [(0, 0), (1, True)],
                [("0", 0), (1, 1)], [(0, 0), (1, "1")], ["00", "11"], [(0, None), (1, 1)], [(0, 0), (1, None)],
                [(0, 0), (1, (1,))], [(0, 0), ([1], 1)], "0:0 1:1", [(0, 0, 0), (1, 1, 1)], [(0,), (1,)], [(), ()]):
            self.assertIs(shows_trail(net, log, 1, 0, thing), False, thing)

    def test_things_of_any_kind(self):
        for thing in odd_things() + ["", "5:0 8:1 10:2", "abc", (5, 0), [5, 0, 8, 1, 10, 2], [(5, 0), None, (10, 2)]]:
            self.assertIs(self.shows(thing), False, thing)
        for pair in ((8,), (8, 1, 0), (8, 1, 8, 1), (), 8, "81", None, True, [8, 1]):
            self.assertIs(self.shows([(5, 0), pair, (10, 2)]), False)
            self.assertIs(self.shows([(5, 0), (8, 1), pair]), False)
            self.assertIs(self.shows([pair, (8, 1), (10, 2)]), False)
        for inner in (deep(list, 0, 18), deep(tuple, 0, 18), deep(tuple, "x", 18)):
            self.assertIs(self.shows([(5, 0), inner, (10, 2)]), False)
            self.assertIs(self.shows([(5, 0), (8, inner), (10, 2)]), False)

    def test_no_street_leads_there(self):
        log = RUN.log()
        self.assertIs(shows_trail((4, [(0, 1, 3)]), log, 2, 0, RIGHT), False)
        self.assertIs(shows_trail((4, [(0, 1, 3), (0, 2, 2)]), log, 2, 0, RIGHT), False)
        self.assertIs(shows_trail((4, [(1, 2, 2), (0, 1, 3)]), log, 2, 0, RIGHT), True)

    def test_later_by_the_wait_or_more(self):
        log = RUN.log()
        for waits, shown in (((3, 2), True), ((1, 1), True), ((3, 1), True), ((4, 2), False), ((3, 3), False)):
            net = (3, [(0, 1, waits[0]), (1, 2, waits[1])])
            self.assertIs(shows_trail(net, log, 2, 0, RIGHT), shown, waits)
        late = run_of(MAKE, LINE, [(6, ("late", 4))], [[]] * 5 + [[("tell", 0, "a")]] + [[]] * 9)
        self.assertIs(shows_trail(LINE, late.log(), 2, 0, [(5, 0), (12, 1), (14, 2)]), True)

    def test_the_telling_is_in_the_log(self):
        log = RUN.log()
        place = log.index((5, ("told", 0, 0, "a")))
        for row in (
                (4, ("told", 0, 0, "a")), (5, ("told", 1, 0, "a")), (5, ("told", 0, 1, "a")), (5, ("told", 0, 0, "b")),
                (5, ("told", 0, 0, None)), (5, ("fell", 0))):
            self.assertIs(shows_trail(LINE, log[:place] + [row] + log[place + 1:], 2, 0, RIGHT), False, row)

    def test_each_taking_in_is_in_the_log(self):
        log = RUN.log()
        place = log.index((8, ("took", 1, 0, (0, 0, 3, "a"))))
        for row in (
                (7, ("took", 1, 0, (0, 0, 2, "a"))), (8, ("took", 1, 2, (0, 0, 3, "a"))),
                (8, ("took", 3, 0, (0, 0, 3, "a"))), (8, ("took", 1, 0, (0, 1, 3, "a"))),
                (8, ("took", 1, 0, (0, 0, 2, "a"))), (8, ("took", 1, 0, (2, 0, 3, "a"))), (8, ("dropped", 1, 0))):
            self.assertIs(shows_trail(LINE, log[:place] + [row] + log[place + 1:], 2, 0, RIGHT), False, row)

    def test_other_ways_through_the_same_log(self):
        # House 1 falls, and has the news again from 2, which had it from 1; then house 3 falls, too.
        make, net = (25, 30, 30, 4, 60), ROUND
        steps = [[]] * 3 + [[("tell", 0, "a")]] + [[]] * 4 + [[("fall", 1)]] + [[]] * 4 + [[("fall", 3)]] + [[]] * 6
        log = run_of(make, net, [], steps).log()
        ways = all_ways(net, log, 3, 0)
        self.assertGreater(len(ways), 1)
        self.assertIn(trail(log, 3, 0), ways)
        for way in ways:
            self.assertIs(shows_trail(net, log, 3, 0, way), True, way)

    def test_what_is_asked_about_stays(self):
        log = RUN.log()
        for thing in (list(RIGHT), [list(pair) for pair in RIGHT], [[[]]]):
            before = copy.deepcopy((LINE, log, thing))
            told = self.shows(thing)
            shows_trail(LINE, log, 2, 0, thing)
            self.assertEqual((LINE, log, thing), before)
            self.assertIs(self.shows(thing), told)


class RunsByChance(unittest.TestCase):
    def runs(self, seed, many):
        chance = random.Random(seed)
        for at in range(many):
            net = some_tree(chance, chance.randrange(2, 7), chance.randrange(4), 3)
            make = some_make(chance, chance.randrange(1, 7)) if at % 3 else (5, 20, 1, 3, 4)
            fates = some_fates(chance, 20, 200, 12)
            steps = [[some_event(chance, net)] if chance.randrange(3) == 0 else [] for _ in range(60)]
            yield chance, net, run_of(make, net, fates, steps).log()

    def test_what_trail_tells_is_taken(self):
        many = 0
        for _, net, log in self.runs(1, 80):
            for house in range(net[0]):
                for teller in range(net[0]):
                    told = trail(log, house, teller)
                    if told is None:
                        self.assertIsNone(last_taken(log, house, teller))
                        self.assertIs(shows_trail(net, log, house, teller, []), False)
                    else:
                        self.assertIs(shows_trail(net, log, house, teller, told), True)
                        many += 1
        self.assertGreater(many, 300)

    def test_all_ways_and_changed_ones_against_the_document_s_words(self):
        counts = {True: 0, False: 0}
        for chance, net, log in self.runs(2, 60):
            for house in range(net[0]):
                for teller in range(net[0]):
                    for way in all_ways(net, log, house, teller)[:20]:
                        self.assertIs(shows_trail(net, log, house, teller, way), True)
                        changed = list(way)
                        place = chance.randrange(len(way))
                        tick, at = way[place]
                        changed[place] = chance.choice([
                            (tick + chance.choice([-1, 1]), at), (tick, chance.randrange(net[0])), way[place - 1]])
                        shown = plain_shows_trail(net, log, house, teller, changed)
                        self.assertIs(shows_trail(net, log, house, teller, changed), shown)
                        counts[shown] += 1
        self.assertGreater(counts[False], 100)


if __name__ == "__main__":
    unittest.main()
