"""Promise [14]: when holdings are settled, how long calm is, and when a house begun anew speaks at the latest."""

import copy
import random
import unittest

from roundnews.calm import calm, is_settled, speaks_by
from roundnews.runs import Run
from tests.chances import some_make, some_net
from tests.plain import mark
from tests.test_nets import plain_parts

# Room 2, beat 4.
MAKE = (15, 10, 3, 2, 4)
LINE = (4, [(0, 1, 3), (1, 2, 2), (2, 3, 9)])
UP = [True, True, True]
A, B, C = (7, 3, 2, "a"), (8, 0, 0, None), (9, 14, 9, "c")


def plain_settled(make, net, up, holdings):
    for part in plain_parts(net, up):
        rows = [(house, mark(news)) for house in part for news in holdings[house]]
        tellers = []
        for teller in range(12):
            if any(row[0] == teller for _, row in rows) and len(tellers) < make[3]:
                tellers.append(teller)
        for teller in tellers:
            of_it = {house: row for house, row in rows if row[0] == teller}
            lacking = [house for house in part if house not in of_it and house != teller]
            if lacking or any(row != other for row in of_it.values() for other in of_it.values()):
                return False
    return True


class IsSettled(unittest.TestCase):
    def settled(self, holdings, up=UP, make=MAKE, net=LINE):
        told = is_settled(make, net, up, holdings)
        self.assertIs(told, plain_settled(make, net, up, holdings))
        return told

    def test_nothing_held(self):
        self.assertIs(self.settled([[], [], [], []]), True)
        self.assertIs(self.settled([[]], [], MAKE, (1, [])), True)
        self.assertIs(self.settled([[A]], [], MAKE, (1, [])), True)

    def test_all_hold_the_same(self):
        self.assertIs(self.settled([[A]] * 4), True)
        self.assertIs(self.settled([[A, B]] * 4), True)

    def test_one_holds_none(self):
        for place in range(4):
            holdings = [[A, B] for _ in range(4)]
            holdings[place] = [A]
            self.assertIs(self.settled(holdings), False)
            holdings[place] = [B]
            self.assertIs(self.settled(holdings), False)
            holdings[place] = []
            self.assertIs(self.settled(holdings), False)
            holdings = [[], [], [], []]
            holdings[place] = [A]
            self.assertIs(self.settled(holdings), False)

    def test_marks_that_differ_in_number_sum_or_age_alone(self):
        for other in ((7, 4, 2, "a"), (7, 3, 2, "b"), (7, 3, 2, None), (7, 3, 3, "a"), (7, 3, 1, "a")):
            for place in range(4):
                holdings = [[A] for _ in range(4)]
                holdings[place] = [other]
                self.assertIs(self.settled(holdings), False, other)
                self.assertIs(self.settled(holdings, [False] * 3), True)

    def test_unlike_words_of_one_sum_have_one_mark(self):
        self.assertIs(self.settled([[(7, 3, 2, " !")], [(7, 3, 2, "\" ")]], [True], MAKE, (2, [(0, 1, 1)])), True)

    def test_parts_by_streets_that_are_up(self):
        holdings = [[A], [A], [B], [B]]
        self.assertIs(self.settled(holdings), False)
        self.assertIs(self.settled(holdings, [True, False, True]), True)
        self.assertIs(self.settled(holdings, [False, False, True]), True)
        self.assertIs(self.settled(holdings, [True, True, False]), False)
        self.assertIs(self.settled(holdings, [False, True, False]), False)
        # One part that isn't is enough, the first or the last.
        self.assertIs(self.settled([[A], [B], [B], [B]], [True, False, True]), False)
        self.assertIs(self.settled([[B], [B], [B], [A]], [True, False, True]), False)

    def test_tellers_beyond_room(self):
        # The two least of a part alone.
        self.assertIs(self.settled([[A, B, C], [A, B], [A, B], [A, B]]), True)
        self.assertIs(self.settled([[A, B, C], [A, B], [A, B, (9, 1, 1, "d")], [A, B]]), True)
        self.assertIs(self.settled([[A, B, C]] * 4), True)
        self.assertIs(self.settled([[A, C], [A, B], [A, B], [A, B]]), False)
        self.assertIs(self.settled([[B, C], [B, C], [B, C], [A, B]]), False)
        holdings = [[A, B, C], [A, B], [A, B], [A, B]]
        self.assertIs(self.settled(holdings, UP, (15, 10, 3, 3, 4)), False)
        self.assertIs(self.settled([[A, B], [A], [A], [A]], UP, (15, 10, 3, 1, 4)), True)
        self.assertIs(self.settled([[A, B], [A], [B], [A]], UP, (15, 10, 3, 1, 4)), False)
        # Counted in each part by itself.
        self.assertIs(self.settled([[A, B, C], [A, B], [C], [C]], [True, False, True]), True)
        self.assertIs(self.settled([[A, B, C], [A, B], [C], [B, C]], [True, False, True]), False)

    def test_a_teller_may_hold_none_of_its_own(self):
        own = (1, 3, 2, "a")
        for room in (1, 2):
            make = (15, 10, 3, room, 4)
            self.assertIs(self.settled([[own], [], [own], [own]], UP, make), True)
            self.assertIs(self.settled([[own]] * 4, UP, make), True)
            self.assertIs(self.settled([[own], [own], [], [own]], UP, make), False)
            self.assertIs(self.settled([[own], [], [(1, 3, 3, "a")], [own]], UP, make), False)
            # But none other than the rest hold.
            self.assertIs(self.settled([[own], [(1, 4, 2, "a")], [own], [own]], UP, make), False)
            self.assertIs(self.settled([[], [own], [], []], UP, make), False)
        # It holds none of another one's either: that's no excuse.
        self.assertIs(self.settled([[own, A], [], [own, A], [own, A]]), False)
        self.assertIs(self.settled([[own, A], [A], [own, A], [own, A]]), True)

    def test_a_teller_alone_in_its_part(self):
        own = (1, 3, 2, "a")
        self.assertIs(self.settled([[], [own], [], []], [False, False, True]), True)

    def test_any_ages_and_any_many(self):
        old = (7, 3, 1000, "a")
        self.assertIs(self.settled([[old]] * 4), True)
        self.assertIs(self.settled([[old], [old], [old], []]), False)
        many = [(teller, 1, 50, "m") for teller in range(12)]
        self.assertIs(self.settled([many] * 4), True)
        self.assertIs(self.settled([many, many, many, many[:2]]), True)
        self.assertIs(self.settled([many, many, many, many[1:]]), False)

    def test_by_chance(self):
        chance = random.Random(1)
        told = {True: 0, False: 0}
        for _ in range(1500):
            net = some_net(chance, chance.randrange(1, 6), 6, 3)
            up = [chance.randrange(3) > 0 for _ in net[1]]
            same = [(teller, teller, 1, "a") for teller in range(net[0] + 1)]
            holdings = [[news for news in same if chance.randrange(7) > 0] for _ in range(net[0])]
            if chance.randrange(2):
                house = chance.randrange(net[0])
                holdings[house] = [
                    chance.choice([news, news, (news[0], 9, 1, "a"), (news[0], news[1], 0, "a")])
                    for news in holdings[house]]
            told[self.settled(holdings, up, (15, 10, 3, chance.randrange(1, 4), 4), net)] += 1
        self.assertGreater(min(told.values()), 300)

    def test_what_is_handed_in_stays(self):
        holdings = [[A, B], [A], [], [B, C]]
        before = copy.deepcopy((LINE, UP, holdings))
        is_settled(MAKE, LINE, UP, holdings)
        self.assertEqual((LINE, UP, holdings), before)


class Calm(unittest.TestCase):
    def test_late_beat_and_waits(self):
        self.assertEqual(calm(MAKE, LINE, 0), 0 + 4 + 9 * 7)
        self.assertEqual(calm(MAKE, LINE, 5), 5 + 4 + 9 * 7)
        self.assertEqual(calm((15, 10, 3, 2, 60), (12, [(0, 1, 2), (3, 11, 1)]), 40), 40 + 60 + 2 * 15)
        self.assertEqual(calm((15, 400, 1, 9, 1), (2, [(0, 1, 1)]), 1), 1 + 1 + 1 * 5)

    def test_without_streets(self):
        self.assertEqual(calm(MAKE, (1, []), 0), 4)
        self.assertEqual(calm(MAKE, (12, []), 7), 11)


class SpeaksBy(unittest.TestCase):
    def test_the_greater_one(self):
        self.assertEqual(speaks_by(MAKE, 5, 5), 15)
        self.assertEqual(speaks_by(MAKE, 5, 14), 15)
        self.assertEqual(speaks_by(MAKE, 5, 15), 15)
        self.assertEqual(speaks_by(MAKE, 5, 16), 16)
        self.assertEqual(speaks_by(MAKE, 0, 200), 200)
        self.assertEqual(speaks_by((3, 1, 1, 1, 1), 0, 0), 1)

    def test_of_a_run_without_neighbours(self):
        chance = random.Random(2)
        for _ in range(60):
            make = some_make(chance, 3)
            fell, wished = chance.randrange(10), chance.randrange(50)
            wished += fell
            run = Run(make, (2, []), [])
            for tick in range(100):
                events = [("tell", 0, "a")] * (tick == 0) + [("fall", 0)] * (tick == fell)
                run.step(events + [("tell", 0, "b")] * (tick == wished))
            told = [tick for tick, what in run.log() if what == ("told", 0, 0, "b")]
            self.assertEqual(told, [speaks_by(make, fell, wished)])


if __name__ == "__main__":
    unittest.main()
