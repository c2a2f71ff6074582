"""Promise [11], waves: what the houses hold when all have from those near to them what these hold."""

import copy
import random
import unittest

from roundnews.nets import hops
from roundnews.waves import last_wave, waves
from tests.chances import some_net, some_tree
from tests.plain import mark
from tests.test_nets import plain_near
from tests.test_news import plain_newer

# The room of one isn't looked at.
MAKE = (15, 10, 3, 1, 4)
LINE = (4, [(0, 1, 2), (1, 2, 9), (2, 3, 1)])
UP = [True, True, True]
# These two have one sum.
ALIKE = (" !", "\" ")


def plain_wave(size, net, up, holdings):
    """One wave, by what newer is of all that a house can choose from."""
    found = []
    for house in range(net[0]):
        choice = list(holdings[house])
        for other in plain_near(net, up, house):
            choice += holdings[other]
        kept = []
        for teller in sorted({news[0] for news in choice}):
            rows = [news for news in choice if news[0] == teller]
            kept.append(next(
                row for row in rows if not any(plain_newer(size, mark(other), mark(row)) for other in rows)))
        found.append(kept)
    return found


def some_holdings(chance, houses, size, tellers):
    """Holdings of which each teller's numbers are in order: all within the reach of the first one."""
    firsts = [chance.randrange(size) for _ in range(tellers)]
    most = (size - 1) // 2
    return [
        [
            (teller, (firsts[teller] + chance.randrange(min(most, 3) + 1)) % size, chance.randrange(4),
             chance.choice([None, "", "a", *ALIKE, "# ", "!!"]))
            for teller in range(tellers) if chance.randrange(3) == 0
        ]
        for _ in range(houses)
    ]


class Waves(unittest.TestCase):
    def test_none(self):
        holdings = [[(5, 1, 0, "a")], [], [(5, 2, 0, "b")], []]
        self.assertEqual(waves(MAKE, LINE, UP, holdings, 0), holdings)
        self.assertEqual(waves(MAKE, (1, []), [], [[(0, 1, 2, None)]], 7), [[(0, 1, 2, None)]])
        self.assertEqual(waves(MAKE, LINE, UP, [[], [], [], []], 3), [[], [], [], []])

    def test_one(self):
        holdings = [[(5, 1, 0, "a")], [(2, 3, 1, "c")], [(5, 2, 0, "b")], []]
        self.assertEqual(waves(MAKE, LINE, UP, holdings, 1), [
            [(2, 3, 1, "c"), (5, 1, 0, "a")], [(2, 3, 1, "c"), (5, 2, 0, "b")], [(2, 3, 1, "c"), (5, 2, 0, "b")],
            [(5, 2, 0, "b")]])

    def test_all_at_once(self):
        # What came by this wave goes on by the next one only.
        holdings = [[(5, 1, 0, "a")], [], [], []]
        news = (5, 1, 0, "a")
        self.assertEqual(waves(MAKE, LINE, UP, holdings, 1), [[news], [news], [], []])
        self.assertEqual(waves(MAKE, LINE, UP, holdings, 2), [[news], [news], [news], []])
        self.assertEqual(waves(MAKE, LINE, UP, holdings, 3), [[news]] * 4)
        self.assertEqual(waves(MAKE, LINE, UP, holdings, 500), [[news]] * 4)
        self.assertEqual(waves(MAKE, LINE, UP, holdings, 10 ** 12), [[news]] * 4)
        holdings = [[], [], [], [(5, 1, 0, "a")]]
        self.assertEqual(waves(MAKE, LINE, UP, holdings, 2), [[], [news], [news], [news]])

    def test_by_numbers_over_the_turn_then_sums_then_ages(self):
        net, up = (2, [(0, 1, 1)]), [True]
        for older, newer in (
                ((5, 14, 0, "z"), (5, 0, 9, None)), ((5, 3, 0, None), (5, 3, 9, "")), ((5, 3, 0, "a"), (5, 3, 9, "b")),
                ((5, 3, 4, "a"), (5, 3, 3, "a"))):
            self.assertEqual(waves(MAKE, net, up, [[older], [newer]], 1), [[newer], [newer]])
            self.assertEqual(waves(MAKE, net, up, [[newer], [older]], 1), [[newer], [newer]])

    def test_of_one_mark_its_own_else_the_least_house_s(self):
        one, other = (5, 3, 2, ALIKE[0]), (5, 3, 2, ALIKE[1])
        star, up = (4, [(2, 3, 1), (0, 3, 1), (1, 3, 1)]), [True] * 3
        self.assertEqual(waves(MAKE, star, up, [[], [one], [other], []], 1), [[], [one], [other], [one]])
        self.assertEqual(waves(MAKE, star, up, [[other], [one], [one], []], 1), [[other], [one], [one], [other]])
        self.assertEqual(waves(MAKE, star, up, [[one], [one], [one], [other]], 1), [[one], [one], [one], [other]])
        self.assertEqual(waves(MAKE, star, up, [[], [other], [one], []], 2), [[other], [other], [one], [other]])
        # Of one older mark ahead of a newer one, the newer one goes.
        newer = (5, 4, 2, "")
        self.assertEqual(waves(MAKE, star, up, [[one], [newer], [other], [other]], 1)[3], [newer])

    def test_streets_that_are_down(self):
        holdings = [[(5, 1, 0, "a")], [], [], [(6, 1, 0, "b")]]
        told = waves(MAKE, LINE, [True, False, True], holdings, 9)
        self.assertEqual(told, [[(5, 1, 0, "a")], [(5, 1, 0, "a")], [(6, 1, 0, "b")], [(6, 1, 0, "b")]])
        self.assertEqual(waves(MAKE, LINE, [False] * 3, holdings, 9), holdings)

    def test_many_at_once_and_some_and_then_the_rest(self):
        chance = random.Random(1)
        for _ in range(150):
            houses = chance.randrange(1, 9)
            net = some_net(chance, houses, 10, 9)
            up = [chance.randrange(4) > 0 for _ in net[1]]
            holdings = some_holdings(chance, houses, 15, 4)
            plain = [list(held) for held in holdings]
            for many in range(7):
                told = waves(MAKE, net, up, holdings, many)
                self.assertEqual(told, plain)
                for rest in (0, 1, 3):
                    self.assertEqual(waves(MAKE, net, up, told, rest), waves(MAKE, net, up, holdings, many + rest))
                plain = plain_wave(15, net, up, plain)

    def test_the_newest_that_is_at_most_so_many_hops_off(self):
        chance = random.Random(2)
        for size in (3, 4, 15, 10 ** 6):
            make = (size,) + MAKE[1:]
            for _ in range(40):
                houses = chance.randrange(1, 13)
                net = some_net(chance, houses, 30, 9)
                up = [chance.randrange(4) > 0 for _ in net[1]]
                holdings = some_holdings(chance, houses, size, 3)
                for many in (0, 1, 2, 5):
                    for house, held in enumerate(waves(make, net, up, holdings, many)):
                        away = hops(net, up, house)
                        reached = [other for other in range(houses) if away[other] is not None and away[other] <= many]
                        rows = [mark(news) for other in reached for news in holdings[other]]
                        best = {row for row in rows if not any(
                            row[0] == other[0] and plain_newer(size, other, row) for other in rows)}
                        self.assertEqual([mark(news) for news in held], sorted(best))

    def test_what_is_handed_in_stays_and_what_is_told_is_the_asker_s(self):
        holdings = [[(5, 1, 0, "a")], [], [(5, 2, 0, "b")], []]
        before = copy.deepcopy((LINE, UP, holdings))
        for many in (0, 1, 2, 9):
            told = waves(MAKE, LINE, UP, holdings, many)
            again = copy.deepcopy(told)
            for held in told:
                held.append("x")
            told.append("y")
            self.assertEqual((LINE, UP, holdings), before)
            self.assertEqual(waves(MAKE, LINE, UP, holdings, many), again)
        last_wave(MAKE, LINE, UP, holdings)
        self.assertEqual((LINE, UP, holdings), before)


class LastWave(unittest.TestCase):
    def test_nothing_changes(self):
        news = (5, 1, 0, "a")
        self.assertEqual(last_wave(MAKE, LINE, UP, [[], [], [], []]), 0)
        self.assertEqual(last_wave(MAKE, LINE, UP, [[news]] * 4), 0)
        self.assertEqual(last_wave(MAKE, (1, []), [], [[news]]), 0)
        self.assertEqual(last_wave(MAKE, LINE, [False] * 3, [[news], [], [], []]), 0)
        # Unlike words of one mark stay where they are.
        self.assertEqual(last_wave(MAKE, (2, [(0, 1, 1)]), [True], [[(5, 3, 2, words)] for words in ALIKE]), 0)

    def test_up_to_the_houses_less_one(self):
        news = (5, 1, 0, "a")
        for houses in range(1, 13):
            net = (houses, [(house, house + 1, 1) for house in range(houses - 1)])
            up = [True] * (houses - 1)
            for place in range(houses):
                holdings = [[news] if house == place else [] for house in range(houses)]
                self.assertEqual(last_wave(MAKE, net, up, holdings), max(place, houses - 1 - place))

    def test_what_changes_last_counts(self):
        holdings = [[(5, 1, 0, "a"), (7, 0, 0, "n")], [(5, 1, 0, "a")], [(5, 1, 0, "a")], [(5, 1, 0, "a")]]
        self.assertEqual(last_wave(MAKE, LINE, UP, holdings), 3)
        self.assertEqual(last_wave(MAKE, LINE, [True, True, False], holdings), 2)
        # Everywhere there is one already, but a newer one goes all the way.
        self.assertEqual(last_wave(MAKE, LINE, UP, [[(5, 2, 9, "a")]] + [[(5, 1, 0, "a")]] * 3), 3)

    def test_against_the_document_s_words(self):
        chance = random.Random(3)
        counts = {}
        for _ in range(200):
            houses = chance.randrange(1, 10)
            net = some_tree(chance, houses, chance.randrange(3), 9)
            up = [chance.randrange(6) > 0 for _ in net[1]]
            holdings = some_holdings(chance, houses, 15, 3)
            told = last_wave(MAKE, net, up, holdings)
            end = waves(MAKE, net, up, holdings, 20)
            least = min(many for many in range(21) if waves(MAKE, net, up, holdings, many) == end)
            self.assertEqual(told, least)
            self.assertLessEqual(told, houses - 1)
            counts[told] = counts.get(told, 0) + 1
        self.assertGreater(len(counts), 4)


if __name__ == "__main__":
    unittest.main()
