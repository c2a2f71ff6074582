"""Promise [13]: what the log tells of where a news came from, and whether one came too late."""

import copy
import random
import unittest

from roundnews.trails import first_wrong, last_taken, told_at, trail
from tests.chances import run_of, some_event, some_fates, some_make, some_net, some_tree
from tests.plain import plain_first_wrong, plain_last_taken, plain_shows_trail

MAKE = (15, 10, 3, 4, 60)
LINE = (3, [(0, 1, 3), (1, 2, 2)])


def took(tick, house, neighbour, teller, number, age, words="a"):
    return (tick, ("took", house, neighbour, (teller, number, age, words)))


class ToldAt(unittest.TestCase):
    def test_its_tick_less_its_age(self):
        self.assertEqual(told_at(7, (0, 3, 2, "a")), 5)
        self.assertEqual(told_at(7, (7, 3, 0, None)), 7)
        self.assertEqual(told_at(299, (11, 0, 299, "")), 0)
        self.assertEqual(told_at(1000, (11, 10 ** 11, 1000, "")), 0)


class LastTaken(unittest.TestCase):
    def test_none(self):
        self.assertIsNone(last_taken([], 0, 1))
        log = [(0, ("told", 0, 3, "a")), took(2, 1, 0, 0, 3, 2), (2, ("ended", 1, 0)), (4, ("heeded", 2, 3))]
        # Another house, another teller, the neighbour, the number, and the teller itself.
        for house, teller in ((2, 0), (1, 1), (0, 1), (1, 3), (0, 0), (3, 0), (11, 11)):
            self.assertIsNone(last_taken(log, house, teller), (house, teller))

    def test_the_last_of_several(self):
        log = [
            took(2, 1, 0, 0, 3, 2), took(5, 1, 2, 0, 4, 1, "b"), took(5, 1, 2, 4, 0, 1, "c"), took(6, 2, 1, 0, 5, 1),
            (7, ("ended", 1, 0)), (9, ("dropped", 1, 0))]
        self.assertEqual(last_taken(log, 1, 0), (5, (0, 4, 1, "b")))
        self.assertEqual(last_taken(log, 1, 4), (5, (4, 0, 1, "c")))
        self.assertEqual(last_taken(log, 2, 0), (6, (0, 5, 1, "a")))
        self.assertEqual(last_taken(log[:1], 1, 0), (2, (0, 3, 2, "a")))

    def test_of_two_in_one_tick_the_later_one(self):
        log = [took(5, 1, 2, 0, 4, 1, "b"), took(5, 1, 0, 0, 5, 0, "c")]
        self.assertEqual(last_taken(log, 1, 0), (5, (0, 5, 0, "c")))

    def test_behind_its_last_fall(self):
        log = [took(2, 1, 0, 0, 3, 2), (2, ("fell", 1))]
        self.assertIsNone(last_taken(log, 1, 0))
        self.assertEqual(last_taken([log[0], (2, ("fell", 0))], 1, 0), (2, (0, 3, 2, "a")))
        log += [took(2, 1, 0, 0, 2, 2, "b")]
        self.assertEqual(last_taken(log, 1, 0), (2, (0, 2, 2, "b")))
        self.assertIsNone(last_taken(log + [(9, ("fell", 1))], 1, 0))
        self.assertIsNone(last_taken([(9, ("fell", 1))], 1, 0))

    def test_by_chance(self):
        chance = random.Random(1)
        for _ in range(300):
            log = some_log(chance, 15)
            for house in range(3):
                for teller in range(3):
                    self.assertEqual(last_taken(log, house, teller), plain_last_taken(log, house, teller))


def some_log(chance, many):
    """A log by chance, that needn't be one of a run, with few houses and many that take in."""
    log, tick = [], 0
    for _ in range(many):
        tick += chance.choice([0, 0, 1, 2])
        house, teller = chance.randrange(3), chance.randrange(3)
        news = (teller, chance.randrange(3), chance.randrange(5), "a")
        log.append((tick, chance.choice([
            ("took", house, 4, news), ("took", house, 4, news), ("took", house, 4, news), ("fell", house),
            ("dropped", house, teller), ("ended", house, teller), ("heeded", house, teller), ("told", house, 2, "a")])))
    return log


class Trail(unittest.TestCase):
    def test_none(self):
        self.assertIsNone(trail([], 0, 1))
        run = run_of(MAKE, LINE, [], [[]] * 5 + [[("tell", 0, "a")]] + [[]] * 6)
        for house, teller in ((0, 0), (0, 1), (1, 1), (1, 2), (2, 2)):
            self.assertIsNone(trail(run.log(), house, teller))
        run.step([("fall", 2)])
        self.assertIsNone(trail(run.log(), 2, 0))
        self.assertEqual(trail(run.log(), 1, 0), [(5, 0), (8, 1)])

    def test_from_the_teller_to_the_house(self):
        run = run_of(MAKE, LINE, [], [[]] * 5 + [[("tell", 0, "a")]] + [[]] * 6)
        self.assertEqual(trail(run.log(), 2, 0), [(5, 0), (8, 1), (10, 2)])
        self.assertEqual(trail(run.log(), 1, 0), [(5, 0), (8, 1)])

    def test_of_the_last_one_taken_in(self):
        run = run_of(MAKE, LINE, [], [[]] * 5 + [[("tell", 0, "a")], [], [], [("take", 0)]] + [[]] * 10)
        self.assertEqual(trail(run.log(), 2, 0), [(8, 0), (11, 1), (13, 2)])
        self.assertEqual(trail(run.log()[:4], 2, 0), [(5, 0), (8, 1), (10, 2)])

    def test_behind_the_end_of_the_news(self):
        run = run_of(MAKE, LINE, [], [[]] * 5 + [[("tell", 0, "a")]] + [[]] * 30)
        self.assertEqual(run.held(2), [])
        self.assertEqual(trail(run.log(), 2, 0), [(5, 0), (8, 1), (10, 2)])

    def test_a_news_taken_in_more_than_once(self):
        # House 1 falls behind its taking in, and has it back from 2 and again, the same, from 0.
        steps = [[]] * 5 + [[("tell", 0, "a")]] + [[]] * 5 + [[("fall", 1)]] + [[]] * 6
        run = run_of((15, 20, 3, 4, 60), LINE, [], steps)
        self.assertEqual(run.log()[1:], [
            took(8, 1, 0, 0, 0, 3), took(10, 2, 1, 0, 0, 5), (11, ("fell", 1)), took(15, 1, 2, 0, 0, 10)])
        self.assertEqual(trail(run.log(), 1, 0), [(5, 0), (8, 1), (10, 2), (15, 1)])
        self.assertEqual(trail(run.log(), 2, 0), [(5, 0), (8, 1), (10, 2)])

    def test_of_one_number_the_one_told_at_that_tick(self):
        # House 0 falls, and tells number 0 once more behind its hush: another news.
        steps = [[]] * 5 + [[("tell", 0, "a")], [("fall", 0), ("tell", 0, "b")]] + [[]] * 15
        make = (15, 6, 6, 4, 60)
        run = run_of(make, LINE, [], steps)
        self.assertEqual(run.log()[0], (5, ("told", 0, 0, "a")))
        self.assertIn((12, ("told", 0, 0, "b")), run.log())
        self.assertEqual(trail(run.log(), 2, 0), [(12, 0), (15, 1), (17, 2)])

    def test_what_is_told_is_the_asker_s_and_the_log_stays(self):
        log = run_of(MAKE, LINE, [], [[]] * 5 + [[("tell", 0, "a")]] + [[]] * 6).log()
        before = copy.deepcopy(log)
        for _ in range(2):
            told = trail(log, 2, 0)
            self.assertEqual(told, [(5, 0), (8, 1), (10, 2)])
            self.assertTrue(type(told) is list and all(type(pair) is tuple for pair in told))
            told.clear()
            last_taken(log, 2, 0)
            first_wrong(log)
            self.assertEqual(log, before)

    def test_in_runs_by_chance(self):
        chance = random.Random(2)
        lengths = {}
        for at in range(120):
            net = some_tree(chance, chance.randrange(2, 8), chance.randrange(4), 3) if at % 2 else some_net(
                chance, chance.randrange(2, 5), 5, 9)
            make = some_make(chance, chance.randrange(1, 8)) if at % 3 else (5, 20, 1, 3, 4)
            fates = some_fates(chance, 20, 200, 12)
            steps = [[some_event(chance, net)] if chance.randrange(3) == 0 else [] for _ in range(70)]
            log = run_of(make, net, fates, steps).log()
            for cut in (len(log), chance.randrange(len(log) + 1)):
                for house in range(net[0]):
                    for teller in range(net[0]):
                        told = trail(log[:cut], house, teller)
                        if plain_last_taken(log[:cut], house, teller) is None:
                            self.assertIsNone(told)
                        else:
                            self.assertIs(plain_shows_trail(net, log[:cut], house, teller, told), True)
                            lengths[len(told)] = lengths.get(len(told), 0) + 1
        self.assertGreater(len(lengths), 4)


class FirstWrong(unittest.TestCase):
    def test_none(self):
        self.assertIsNone(first_wrong([]))
        for log in (
                [took(2, 1, 0, 0, 3, 2)], [took(2, 1, 0, 0, 3, 2), took(3, 1, 0, 0, 4, 2)],
                # Told at the same tick, of another teller, by another house.
                [took(2, 1, 0, 0, 3, 2), took(3, 1, 2, 0, 3, 3)], [took(2, 1, 0, 0, 3, 1), took(3, 1, 0, 2, 3, 3)],
                [took(2, 1, 0, 0, 3, 1), took(3, 2, 0, 0, 3, 3)]):
            self.assertIsNone(first_wrong(log), log)

    def test_the_first_of_several(self):
        log = [
            (0, ("told", 0, 3, "a")), took(2, 1, 0, 0, 3, 1), took(2, 1, 0, 2, 3, 2), took(4, 1, 0, 2, 1, 2),
            took(4, 1, 0, 0, 7, 4), took(5, 1, 0, 0, 8, 5), took(6, 1, 0, 2, 1, 6)]
        self.assertEqual(first_wrong(log), 4)
        self.assertEqual(first_wrong(log[4:]), None)
        self.assertEqual(first_wrong(log[:4]), None)
        self.assertEqual(first_wrong(log[:4] + log[5:]), 4)
        self.assertEqual(first_wrong(log[2:4] + log[6:]), 2)

    def test_by_ticks_and_not_by_numbers(self):
        self.assertEqual(first_wrong([took(2, 1, 0, 0, 3, 1), took(2, 1, 0, 0, 4, 2)]), 1)
        self.assertIsNone(first_wrong([took(2, 1, 0, 0, 3, 1), took(2, 1, 0, 0, 2, 0)]))

    def test_ahead_of_any_earlier_one(self):
        log = [took(9, 1, 0, 0, 3, 0), took(9, 1, 0, 0, 3, 0), took(9, 1, 0, 0, 5, 1)]
        self.assertEqual(first_wrong(log), 2)
        self.assertEqual(first_wrong([took(3, 1, 0, 0, 3, 3), took(9, 1, 0, 0, 3, 0), took(9, 1, 0, 0, 5, 4)]), 2)

    def test_behind_a_fall(self):
        early, late = took(2, 1, 0, 0, 3, 1), took(5, 1, 0, 0, 2, 5)
        self.assertEqual(first_wrong([early, late]), 1)
        self.assertIsNone(first_wrong([early, (3, ("fell", 1)), late]))
        self.assertEqual(first_wrong([early, (3, ("fell", 0)), late]), 2)
        self.assertEqual(first_wrong([(1, ("fell", 1)), early, late]), 2)
        # All tellers' are forgotten, but of that house alone.
        other = took(2, 1, 0, 4, 3, 1)
        self.assertIsNone(first_wrong([early, other, (3, ("fell", 1)), late, took(5, 1, 0, 4, 2, 5)]))
        self.assertEqual(first_wrong([early, took(2, 2, 0, 0, 3, 1), (3, ("fell", 1)), took(5, 2, 0, 0, 2, 5)]), 3)
        # And what was taken in behind the fall counts again.
        self.assertEqual(first_wrong([early, (3, ("fell", 1)), early, late]), 3)

    def test_behind_a_dropping(self):
        early, late = took(2, 1, 0, 4, 3, 1), took(5, 1, 0, 4, 2, 5)
        self.assertIsNone(first_wrong([early, (3, ("dropped", 1, 4)), late]))
        self.assertEqual(first_wrong([early, (3, ("dropped", 1, 5)), late]), 2)
        self.assertEqual(first_wrong([early, (3, ("dropped", 2, 4)), late]), 2)
        self.assertEqual(first_wrong([(1, ("dropped", 1, 4)), early, late]), 2)
        self.assertEqual(first_wrong([early, (3, ("dropped", 1, 4)), early, late]), 3)
        other = took(2, 1, 0, 5, 3, 1)
        log = [early, other, (3, ("dropped", 1, 5)), took(5, 1, 0, 5, 2, 5), late]
        self.assertEqual(first_wrong(log), 4)

    def test_an_end_isn_t_a_dropping(self):
        log = [took(2, 1, 0, 0, 3, 1), (3, ("ended", 1, 0)), (3, ("heeded", 1, 0)), (3, ("told", 1, 0, "b"))]
        self.assertEqual(first_wrong(log + [took(5, 1, 0, 0, 2, 5)]), 4)

    def test_by_chance(self):
        chance = random.Random(3)
        told = {}
        for _ in range(800):
            log = some_log(chance, chance.randrange(16))
            place = first_wrong(log)
            self.assertEqual(place, plain_first_wrong(log))
            told[place] = told.get(place, 0) + 1
        self.assertGreater(len(told), 8)
        self.assertIn(None, told)

    def test_none_in_runs_of_safe_makes(self):
        chance = random.Random(4)
        for _ in range(60):
            net = some_tree(chance, chance.randrange(2, 7), 3, 4)
            make = some_make(chance, chance.randrange(1, 7))
            fates = some_fates(chance, 40, 300, 30)
            fallen, steps = {}, []
            for tick in range(90):
                events = [some_event(chance, net) for _ in range(chance.randrange(3))]
                # No house falls twice within life ticks.
                kept = []
                for event in events:
                    if event[0] != "fall":
                        kept.append(event)
                    elif tick - fallen.get(event[1], -10 ** 6) >= make[1]:
                        fallen[event[1]] = tick
                        kept.append(event)
                steps.append(kept)
            self.assertIsNone(first_wrong(run_of(make, net, fates, steps).log()))

    def test_a_run_of_a_make_that_isn_t_safe(self):
        # Round 3, and three numbers are about: what is two steps behind is the newer one.
        make, net = (3, 20, 1, 2, 60), (2, [(0, 1, 1)])
        fates = [(2, ("late", 6))]
        run = run_of(make, net, fates, [[]] * 3 + [[("tell", 0, words)] for words in "abc"] + [[]] * 8)
        place = first_wrong(run.log())
        self.assertEqual(run.log()[place], took(10, 1, 0, 0, 0, 7))
        self.assertEqual(run.held(1)[0][3], "a")


if __name__ == "__main__":
    unittest.main()
