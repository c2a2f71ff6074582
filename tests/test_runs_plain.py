"""Promise [12] beside PlainRun, over runs by chance; and [2] of runs: what is handed in, and what is told."""

import copy
import random
import unittest

from roundnews.errors import NoHouse
from roundnews.makes import least_round
from roundnews.runs import Run
from tests.chances import run_of, shown, some_event, some_fates, some_make, some_net, some_tree
from tests.plain import PlainRun

MAKE = (15, 10, 3, 4, 4)
LINE = (3, [(0, 1, 3), (1, 2, 2)])


def some_steps(chance, net, many, odds):
    """So many lists of events, one in odds of them with some."""
    return [
        [some_event(chance, net) for _ in range(chance.randrange(1, 4))] if chance.randrange(odds) == 0 else []
        for _ in range(many)
    ]


class AgainstPlainRuns(unittest.TestCase):
    def check(self, make, net, fates, steps, each):
        run, plain = Run(make, net, fates), PlainRun(make, net, fates)
        for at, events in enumerate(steps):
            self.assertEqual(run.step(events), plain.step(events))
            if at % each == 0:
                self.assertEqual(shown(run), plain.shown())
        self.assertEqual(shown(run), plain.shown())
        return {what[0] for _, what in run.log()}

    def test_small_nets(self):
        chance = random.Random(12)
        kinds = set()
        for _ in range(120):
            houses = chance.randrange(1, 6)
            net = some_net(chance, houses, 6, chance.choice([1, 3, 9]))
            make = some_make(chance, chance.randrange(1, 6))
            fates = some_fates(chance, chance.randrange(25), 150, 12)
            kinds |= self.check(make, net, fates, some_steps(chance, net, 60, chance.choice([1, 2, 5])), 1)
        self.assertEqual(kinds, {"told", "took", "dropped", "heeded", "fell", "ended"})

    def test_makes_that_aren_t_safe(self):
        chance = random.Random(13)
        for _ in range(40):
            net = some_tree(chance, chance.randrange(2, 6), 2, 5)
            make = (chance.randrange(3, 7), chance.randrange(1, 15), chance.randrange(1, 4), chance.randrange(1, 4), 3)
            fates = some_fates(chance, 30, 200, 20)
            self.check(make, net, fates, some_steps(chance, net, 50, 2), 5)

    def test_to_the_bounds(self):
        chance = random.Random(14)
        for life, gap, beat in ((400, 400, 60), (40, 3, 7), (25, 1, 13)):
            net = some_tree(chance, 12, 19, 9)
            make = (least_round(life, gap), life, gap, 12, beat)
            fates = some_fates(chance, 60, 900, 40)
            self.check(make, net, fates, some_steps(chance, net, 150, 3), 25)


class ApartFromOthers(unittest.TestCase):
    def test_the_same_is_told_the_same(self):
        chance = random.Random(15)
        for _ in range(10):
            net = some_tree(chance, 5, 3, 4)
            fates, steps = some_fates(chance, 20, 100, 9), some_steps(chance, net, 40, 2)
            run, other = Run(MAKE, net, fates), Run(MAKE, net, fates)
            for events in steps:
                # One of them is asked many times, and never told otherwise.
                self.assertEqual(shown(run), shown(run))
                self.assertEqual(run.step(events), other.step(events))
            self.assertEqual(shown(run), shown(other))
            self.assertEqual(shown(run_of(MAKE, net, fates, steps)), shown(run))

    def test_what_is_handed_in_stays_and_isn_t_kept(self):
        net, fates, events = (3, list(LINE[1])), [(4, ("late", 2)), (5, ("lose",))], [("tell", 0, "a"), ("take", 2)]
        before = copy.deepcopy((net, fates, events))
        run, twin = Run(MAKE, net, fates), Run(MAKE, (3, list(LINE[1])), list(fates))
        run.step(events)
        self.assertEqual((net, fates, events), before)
        twin.step(list(events))
        events.clear()
        net[1][0] = (0, 2, 9)
        net[1].append((0, 2, 1))
        fates.clear()
        fates.append((6, ("lose",)))
        for at in range(15):
            more = [("down", 0)] if at == 6 else [("up", 0), ("fall", 1)] if at == 8 else []
            self.assertEqual(run.step(more), twin.step(more))
            self.assertEqual(shown(run), shown(twin))
        with self.assertRaises(NoHouse):
            run.step([("fall", 3)])

    def test_what_is_told_is_the_asker_s(self):
        steps = [[("tell", 0, "a"), ("tell", 2, "c")], [], [], [("down", 0)], [], [("up", 0)], [("fall", 1)]]
        run, twin = run_of(MAKE, LINE, [], []), run_of(MAKE, LINE, [], [])
        for events in steps + [[]] * 5:
            told = run.step(events)
            self.assertEqual(told, twin.step(events))
            for some in (told, run.log(), run.up(), run.under_way(), run.held(0), run.held(1)):
                self.assertIs(type(some), list)
                some.append("x")
                some[0] = "y"
                some.clear()
            self.assertEqual(shown(run), shown(twin))
            self.assertTrue(all(type(post) is tuple for post in run.under_way()))

    def test_a_list_told_ahead_stays_as_it_was(self):
        run = run_of(MAKE, LINE, [], [[("tell", 0, "a")]])
        told = (run.log(), run.up(), run.under_way(), run.held(0), run.held(1))
        before = copy.deepcopy(told)
        for events in ([("down", 0)], [("fall", 0)], [("tell", 1, "b")], [], []):
            run.step(events)
        self.assertEqual(told, before)


if __name__ == "__main__":
    unittest.main()
