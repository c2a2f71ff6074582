import unittest
from itertools import product

from roundnews.roundcheck import shows_bar, shows_order
from roundnews.rounds import bar_of, in_order
from tests.test_rounds import newer
from tests.things import deep, great_lists, odd_things


class Orders(unittest.TestCase):
    def test_all_small_rows(self):
        rows = [list(row) for many in range(5) for row in product(range(5), repeat=many)]
        for size in (5, 6):
            for numbers in ([], [3], [0, 4], [4, 0, 1, 0], [0, 3], [0, 2, 4], [1, 2, 3], [3, 2, 1, 4]):
                order = in_order(size, numbers)
                for row in rows:
                    self.assertIs(shows_order(size, numbers, row), row == order, (size, numbers, row))

    def test_no_order_is_shown_where_there_is_none(self):
        for thing in (None, [], [0, 1, 2], [2, 1, 0], [0], ("ring", 0, 2, 1)):
            self.assertIs(shows_order(3, [0, 1, 2], thing), False)
        for thing in (None, [], [0, 2], [2, 0]):
            self.assertIs(shows_order(4, [0, 2], thing), False)

    def test_great_lists(self):
        shown = 0
        for size, numbers in great_lists():
            order = in_order(size, numbers)
            if order is None:
                self.assertIs(shows_order(size, numbers, sorted(set(numbers))), False)
                continue
            shown += 1
            self.assertIs(shows_order(size, numbers, order), True)
            self.assertIs(shows_order(size, numbers, order + [order[-1]]), False)
            self.assertIs(shows_order(size, numbers, order[1:]), False)
            self.assertIs(shows_order(size, numbers, order[:-1]), False)
            self.assertIs(shows_order(size, numbers, order[:-1] + [(order[-1] + 1) % size]), False)
            if len(order) > 1:
                self.assertIs(shows_order(size, numbers, [order[1], order[0]] + order[2:]), False)
                self.assertIs(shows_order(size, numbers, order[:1] + order[:-1]), False)
        self.assertGreater(shown, 8)

    def test_other_kinds(self):
        numbers = [0, 1]
        for thing in odd_things() + [None, "", "01", (0, 1), [False, True], [0, True], [False, 1], [[0, 1]], [0, 1, []]]:
            self.assertIs(shows_order(5, numbers, thing), False, thing)
        self.assertIs(shows_order(5, numbers, [0, 1]), True)
        self.assertIs(shows_order(5, [1], [True]), False)
        self.assertIs(shows_order(5, [0], [False]), False)
        self.assertIs(shows_order(5, [], ()), False)
        self.assertIs(shows_order(5, [], []), True)
        self.assertIs(shows_order(5, [4], [-1]), False)
        self.assertIs(shows_order(5, [4], [9]), False)
        self.assertIs(shows_order(5, [4], deep(list, 4, 2)), False)

    def test_nothing_handed_in_is_changed(self):
        numbers, thing = [3, 2, 3], [2, 3]
        self.assertIs(shows_order(5, numbers, thing), True)
        self.assertIs(shows_order(5, numbers, thing), True)
        self.assertEqual((numbers, thing), ([3, 2, 3], [2, 3]))


class Bars(unittest.TestCase):
    def test_all_small_bars(self):
        for size, numbers in ((3, [0, 1, 2]), (4, [0, 1, 2, 3]), (5, [0, 2, 4, 0]), (6, [0, 2, 3, 4]), (6, [1, 2, 4]), (7, [])):
            for a, b in product(range(-1, size + 1), repeat=2):
                right = a in numbers and b in numbers and a != b
                right = right and not newer(size, a, b) and not newer(size, b, a)
                self.assertIs(shows_bar(size, numbers, ("far", a, b)), right, (size, numbers, a, b))
                self.assertIs(shows_bar(size, numbers, ("ring", a, b)), False)
            for a, b, c in product(range(-1, size + 1), repeat=3):
                right = a in numbers and b in numbers and c in numbers
                right = right and newer(size, a, b) and newer(size, b, c) and newer(size, c, a)
                self.assertIs(shows_bar(size, numbers, ("ring", a, b, c)), right, (size, numbers, a, b, c))
                self.assertIs(shows_bar(size, numbers, ("far", a, b, c)), False)

    def test_any_turn_of_a_bar_and_a_ring_beside_a_far_pair(self):
        for thing in (("ring", 0, 2, 1), ("ring", 2, 1, 0), ("ring", 1, 0, 2)):
            self.assertIs(shows_bar(3, [0, 1, 2], thing), True)
        for thing in (("ring", 0, 1, 2), ("ring", 1, 2, 0), ("ring", 0, 2), ("ring", 0, 2, 1, 0)):
            self.assertIs(shows_bar(3, [0, 1, 2], thing), False)
        self.assertIs(shows_bar(4, [0, 2, 1], ("far", 2, 0)), True)
        self.assertIs(shows_bar(8, [0, 1, 3, 4, 6], ("far", 0, 4)), True)
        self.assertIs(shows_bar(8, [0, 1, 3, 4, 6], ("ring", 6, 3, 0)), True)

    def test_no_bar_is_shown_where_there_is_an_order(self):
        for thing in (None, (), [], ("far", 0, 1), ("far", 0, 0), ("ring", 0, 0, 0), ("ring", 2, 1, 0)):
            self.assertIs(shows_bar(9, [0, 1, 2], thing), False)
        self.assertIs(shows_bar(4, [0, 0], ("far", 0, 0)), False)

    def test_great_lists(self):
        shown = 0
        for size, numbers in great_lists():
            bar = bar_of(size, numbers)
            self.assertIs(shows_bar(size, numbers, bar), bar is not None)
            if bar is not None:
                shown += 1
                self.assertIs(shows_bar(size, numbers, list(bar)), False)
                self.assertIs(shows_bar(size, numbers, bar[:-1]), False)
                self.assertIs(shows_bar(size, numbers, bar + (bar[-1],)), False)
                self.assertIs(shows_bar(size, numbers, bar[1:]), False)
        self.assertGreater(shown, 4)

    def test_other_kinds(self):
        others = [
            None, "", "far", ["far", 0, 2], ["ring", 0, 3, 2], ("far", 0, 2, None), ("far", False, 2), ("FAR", 0, 2),
            ("far", (0, 2)), ("far", [0, 2]), ("far", "0", "2"), (("far",), 0, 2), ("far", 0), (0, 2), ("far", 0, (2,)),
            ("bar", 0, 2), (None, 0, 2), (True, 0, 2), ("far", 0, 6), ("far", -4, 2), ("ring", 3, True, False),
        ]
        for thing in odd_things() + others:
            self.assertIs(shows_bar(4, [0, 1, 2, 3], thing), False, thing)
        self.assertIs(shows_bar(4, [0, 1, 2, 3], ("far", 0, 2)), True)
        self.assertIs(shows_bar(3, [0, 1, 2], ("ring", 1, False, 2)), False)
        self.assertIs(shows_bar(3, [0, 1, 2], ("ring", True, 0, 2)), False)
        self.assertIs(shows_bar(3, [0, 1, 2], ["ring", 1, 0, 2]), False)
        self.assertIs(shows_bar(4, [0, 1, 2, 3], deep(tuple, ("far", 0, 2), 19)), False)
        self.assertIs(shows_bar(4, [0, 1, 2, 3], ("far", 1, 3)), True)
        self.assertIs(shows_bar(4, [0, 1, 2, 3], ("far", True, 3)), False)

    def test_nothing_handed_in_is_changed(self):
        numbers = [3, 1, 3]
        self.assertIs(shows_bar(4, numbers, ("far", 1, 3)), True)
        self.assertEqual(numbers, [3, 1, 3])


if __name__ == "__main__":
    unittest.main()
