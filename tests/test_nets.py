"""Promise [11], nets: which things are nets, what is near, the parts, and how far it is."""

import copy
import random
import unittest
from itertools import combinations, product

from roundnews.nets import far, hops, is_net, near, parts
from tests.chances import some_net
from tests.things import deep, odd_things

# 0 to 3 go round, with a short cut of two long streets by 4; 5 and 6 are by themselves; nothing leads to 7.
NET = (8, [(0, 1, 3), (1, 2, 3), (2, 3, 3), (0, 3, 9), (0, 4, 4), (2, 4, 4), (5, 6, 2)])
ALL_UP = [True] * 7


def plain_near(net, up, house):
    found = []
    for at, (one, other, _) in enumerate(net[1]):
        if up[at] and one == house:
            found.append(other)
        if up[at] and other == house:
            found.append(one)
    return sorted(found)


def plain_far(net, up, house, wait_of):
    """The least sums by letting each street shorten the way, as often as there are houses."""
    sums = {house: 0}
    for _ in range(net[0]):
        for (one, other, wait), is_up in zip(*(net[1], up)):
            for start, end in ((one, other), (other, one)):
                if is_up and start in sums:
                    sums[end] = min(sums.get(end, 10 ** 9), sums[start] + wait_of(wait))
    return [sums.get(other) for other in range(net[0])]


def plain_parts(net, up):
    """Parts by putting two together for each street."""
    found = [[house] for house in range(net[0])]
    for at, (one, other, _) in enumerate(net[1]):
        if up[at]:
            touched = [part for part in found if one in part or other in part]
            found = [part for part in found if part not in touched] + [sorted(sum(touched, []))]
    return sorted(found)


def small_nets():
    """All nets of up to four houses with waits by turns, with all ways for streets to be up."""
    for houses in (1, 2, 3, 4):
        pairs = list(combinations(range(houses), 2))
        for many in range(len(pairs) + 1):
            for some in combinations(pairs, many):
                net = (houses, [(one, other, 1 + (one * 5 + other * 3) % 7) for one, other in some])
                for up in product((True, False), repeat=many):
                    yield net, list(up)


class IsNet(unittest.TestCase):
    def test_nets(self):
        for thing in (
                NET, (1, []), (12, []), (2, [(0, 1, 1)]), (3, [(1, 2, 9), (0, 2, 1), (0, 1, 5)]),
                (12, [(10, 11, 9), (0, 11, 1)])):
            self.assertIs(is_net(thing), True, thing)

    def test_beyond_the_bounds(self):
        for thing in (
                (13, []), (10 ** 15, [(0, 10 ** 15 - 1, 10 ** 15)]), (2, [(0, 1, 10)]),
                (10, [(one, other, 1) for one, other in combinations(range(10), 2)]),
                (1000, [(one, one + 1, 2) for one in range(999)])):
            self.assertIs(is_net(thing), True)

    def test_houses(self):
        for houses in (0, -1, True, False, None, "2", (2,), [2], ""):
            self.assertIs(is_net((houses, [])), False, houses)

    def test_streets(self):
        wrong = [
            (1, 0, 1), (0, 0, 1), (1, 1, 1), (0, 3, 1), (2, 3, 1), (3, 4, 1), (-1, 0, 1), (-1, 1, 1), (-2, -1, 1),
            (0, 1, 0), (0, 1, -1), (0, 1), (0, 1, 1, 1), (0,), (), [0, 1, 1], ((0, 1), 1), (False, 1, 1), (0, True, 1),
            (0, 1, True), (0, 1, False), ("0", 1, 1), (0, "1", 1), (0, 1, "1"), (None, 1, 1), (0, None, 1),
            (0, 1, None), 0, 1, None, True, "", "011", "abc", [], ((0, 1, 1),), ([0], 1, 1), (0, (1,), 1),
            (0, 1, [1]), deep(list, 0, 18), deep(tuple, 0, 18),
        ]
        for street in wrong:
            self.assertIs(is_net((3, [street])), False, street)
            self.assertIs(is_net((3, [(0, 2, 1), street])), False, street)
            self.assertIs(is_net((3, [street, (0, 2, 1)])), False, street)

    def test_two_between_the_same_two(self):
        for some in (
                [(0, 1, 1), (0, 1, 1)], [(0, 1, 1), (0, 1, 2)], [(0, 1, 1), (1, 2, 1), (0, 2, 1), (0, 1, 9)],
                [(0, 1, 1), (1, 2, 3), (1, 2, 1)]):
            self.assertIs(is_net((3, some)), False, some)

    def test_tuples_and_lists(self):
        for thing in (
                [3, [(0, 1, 1)]], (3, ((0, 1, 1),)), (3, ()), [3, []], (3,), (3, [], []), (), ([], 3), (3, None),
                (3, "", []), ((3, []),), [(3, [])], (3, True), (3, 0), (3, ""), (3, [[]]), (3, [()])):
            self.assertIs(is_net(thing), False, thing)

    def test_odd_things(self):
        for thing in odd_things() + [None, "", "houses 1", "2"]:
            self.assertIs(is_net(thing), False, thing)

    def test_what_is_asked_about_stays(self):
        for thing in (NET, (3, [(0, 1, 1), [1, 2]]), [1, [2]]):
            before = copy.deepcopy(thing)
            is_net(thing)
            self.assertEqual(thing, before)


class Near(unittest.TestCase):
    def test_all_up(self):
        told = [near(NET, ALL_UP, house) for house in range(8)]
        self.assertEqual(told, [[1, 3, 4], [0, 2], [1, 3, 4], [0, 2], [0, 2], [6], [5], []])

    def test_some_up(self):
        up = [True, False, True, False, True, False, True]
        told = [near(NET, up, house) for house in range(8)]
        self.assertEqual(told, [[1, 4], [0], [3], [2], [0], [6], [5], []])

    def test_none_up(self):
        for house in range(8):
            self.assertEqual(near(NET, [False] * 7, house), [])

    def test_it_rises_whatever_the_order_of_streets(self):
        self.assertEqual(near((5, [(3, 4, 1), (2, 3, 1), (0, 3, 1), (1, 3, 1)]), [True] * 4, 3), [0, 1, 2, 4])


class Parts(unittest.TestCase):
    def test_all_up(self):
        self.assertEqual(parts(NET, ALL_UP), [[0, 1, 2, 3, 4], [5, 6], [7]])

    def test_some_up(self):
        up = [False, True, False, True, False, False, False]
        self.assertEqual(parts(NET, up), [[0, 3], [1, 2], [4], [5], [6], [7]])

    def test_none_up(self):
        self.assertEqual(parts(NET, [False] * 7), [[house] for house in range(8)])
        self.assertEqual(parts((1, []), []), [[0]])

    def test_they_rise_by_first_ones(self):
        net = (6, [(2, 5, 1), (0, 4, 1), (1, 3, 1)])
        self.assertEqual(parts(net, [True] * 3), [[0, 4], [1, 3], [2, 5]])


class Far(unittest.TestCase):
    def test_all_up(self):
        self.assertEqual(far(NET, ALL_UP, 0), [0, 3, 6, 9, 4, None, None, None])
        self.assertEqual(far(NET, ALL_UP, 3), [9, 6, 3, 0, 7, None, None, None])
        self.assertEqual(far(NET, ALL_UP, 6), [None] * 5 + [2, 0, None])
        self.assertEqual(far(NET, ALL_UP, 7), [None] * 7 + [0])

    def test_some_up(self):
        up = [False, True, True, True, True, True, False]
        self.assertEqual(far(NET, up, 0), [0, 11, 8, 9, 4, None, None, None])
        self.assertEqual(far(NET, up, 5), [None] * 5 + [0, None, None])

    def test_none_up(self):
        self.assertEqual(far(NET, [False] * 7, 2), [None, None, 0] + [None] * 5)
        self.assertEqual(far((1, []), [], 0), [0])

    def test_the_straight_street_may_be_the_longer_way(self):
        net = (4, [(0, 3, 9), (0, 1, 2), (1, 2, 2), (2, 3, 2)])
        self.assertEqual(far(net, [True] * 4, 0), [0, 2, 4, 6])
        self.assertEqual(hops(net, [True] * 4, 0), [0, 1, 2, 1])

    def test_a_later_way_may_be_the_shorter_one(self):
        net = (5, [(0, 1, 9), (0, 2, 1), (1, 2, 7), (2, 3, 1), (1, 3, 5), (3, 4, 1), (1, 4, 3)])
        self.assertEqual(far(net, [True] * 7, 0), [0, 6, 1, 2, 3])


class Hops(unittest.TestCase):
    def test_all_up(self):
        self.assertEqual(hops(NET, ALL_UP, 0), [0, 1, 2, 1, 1, None, None, None])
        self.assertEqual(hops(NET, ALL_UP, 1), [1, 0, 1, 2, 2, None, None, None])

    def test_some_up(self):
        up = [True, True, True, False, False, False, True]
        self.assertEqual(hops(NET, up, 0), [0, 1, 2, 3, None, None, None, None])
        self.assertEqual(hops(NET, up, 5), [None] * 5 + [0, 1, None])

    def test_none_up(self):
        self.assertEqual(hops(NET, [False] * 7, 7), [None] * 7 + [0])


class AgainstPlainRenderings(unittest.TestCase):
    def check(self, net, up):
        before = copy.deepcopy((net, up))
        for house in range(net[0]):
            self.assertEqual(near(net, up, house), plain_near(net, up, house))
            self.assertEqual(far(net, up, house), plain_far(net, up, house, lambda wait: wait))
            self.assertEqual(hops(net, up, house), plain_far(net, up, house, lambda wait: 1))
        self.assertEqual(parts(net, up), plain_parts(net, up))
        self.assertEqual((net, up), before)
        self.assertIs(is_net(net), True)

    def test_small_nets(self):
        for net, up in small_nets():
            self.check(net, up)

    def test_nets_by_chance_to_the_bounds(self):
        chance = random.Random(11)
        for _ in range(150):
            net = some_net(chance, chance.randrange(5, 13), 30, 9)
            for odds in (0, 2, 5):
                self.check(net, [chance.randrange(odds + 1) > 0 or odds == 0 for _ in net[1]])

    def test_what_is_told_is_the_asker_s(self):
        for ask in (
                lambda: near(NET, ALL_UP, 0), lambda: parts(NET, ALL_UP), lambda: far(NET, ALL_UP, 0),
                lambda: hops(NET, ALL_UP, 0)):
            first = ask()
            before = copy.deepcopy(first)
            for inner in first:
                if isinstance(inner, list):
                    inner.append(99)
            first.clear()
            self.assertEqual(ask(), before)


if __name__ == "__main__":
    unittest.main()
