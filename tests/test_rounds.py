import unittest
from itertools import combinations, permutations, product

from roundnews.rounds import ahead, bar_of, in_order, is_newer, on_from, reach, window
from tests.things import great_lists


def steps_to(size, a, b):
    """How many single steps lead from b on to a."""
    many = 0
    while b != a:
        b = b + 1 if b + 1 < size else 0
        many += 1
    return many


def newer(size, a, b):
    """By the document's words, with no division: twice the steps are above 0 and not above one less than the round."""
    steps = a - b if a >= b else a - b + size
    return 1 <= steps and 2 * steps <= size - 1


def plain_order(size, numbers):
    """in_order by trying all rows of the unlike numbers."""
    for row in permutations(set(numbers)):
        if all(newer(size, row[at], row[k]) for at in range(len(row)) for k in range(at)):
            return list(row)
    return None


def plain_bar(size, numbers):
    """bar_of by its words, over all pairs and triples."""
    unlike = set(numbers)
    pairs = [(a, b) for a, b in combinations(sorted(unlike), 2) if not newer(size, a, b) and not newer(size, b, a)]
    if pairs:
        return ("far",) + min(pairs)
    rings = [
        (a, b, c) for a, b, c in permutations(unlike, 3)
        if a < b and a < c and newer(size, a, b) and newer(size, b, c) and newer(size, c, a)
    ]
    return ("ring",) + min(rings) if rings else None


def small_lists():
    """All lists of up to four numbers of small rounds, even and odd, and all sets of rounds to 9."""
    for size in range(3, 8):
        for many in range(5):
            for numbers in product(range(size), repeat=many):
                yield size, list(numbers)
    for size in (8, 9):
        for many in range(6):
            for numbers in combinations(range(size), many):
                yield size, list(reversed(numbers))


class Steps(unittest.TestCase):
    def test_reach(self):
        self.assertEqual([reach(size) for size in range(3, 11)], [1, 1, 2, 2, 3, 3, 4, 4])
        self.assertEqual(reach(10 ** 12), 499999999999)
        self.assertEqual(reach(10 ** 12 - 1), 499999999999)
        for size in range(3, 100):
            self.assertEqual(reach(size), max(k for k in range(size) if 2 * k <= size - 1))

    def test_ahead(self):
        for size in range(3, 10):
            for a, b in product(range(size), repeat=2):
                self.assertEqual(ahead(size, a, b), steps_to(size, a, b))
        self.assertEqual(ahead(10 ** 12, 0, 10 ** 12 - 1), 1)
        self.assertEqual(ahead(10 ** 12, 10 ** 12 - 1, 0), 10 ** 12 - 1)
        self.assertEqual(ahead(3, 2, 2), 0)

    def test_is_newer(self):
        for size in range(3, 12):
            for a, b in product(range(size), repeat=2):
                self.assertIs(is_newer(size, a, b), newer(size, a, b))

    def test_is_newer_at_the_edges_of_great_rounds(self):
        for size in (10 ** 12, 10 ** 12 - 1):
            far = 499999999999
            for start in (0, 1, far, size - 1):
                self.assertIs(is_newer(size, start, start), False)
                self.assertIs(is_newer(size, (start + 1) % size, start), True)
                self.assertIs(is_newer(size, (start + far) % size, start), True)
                self.assertIs(is_newer(size, (start + far + 1) % size, start), False)
                self.assertIs(is_newer(size, (start - 1) % size, start), False)

    def test_half_an_even_round_apart_neither_is_newer(self):
        for size in (4, 6, 8, 10 ** 12):
            self.assertIs(is_newer(size, 0, size // 2), False)
            self.assertIs(is_newer(size, size // 2, 0), False)
        for size in (3, 5, 7, 10 ** 12 - 1):
            self.assertIs(is_newer(size, size // 2, 0), True)
            self.assertIs(is_newer(size, size // 2 + 1, 0), False)

    def test_on_from(self):
        for size in range(3, 8):
            for a in range(size):
                place = a
                for many in range(3 * size):
                    self.assertEqual(on_from(size, a, many), place)
                    place = place + 1 if place + 1 < size else 0
        self.assertEqual(on_from(3, 2, 10 ** 12), 0)
        self.assertEqual(on_from(10 ** 12, 5, 10 ** 12), 5)
        self.assertEqual(on_from(10 ** 12, 10 ** 12 - 1, 1), 0)
        self.assertEqual(on_from(10 ** 12, 3, 0), 3)


class Orders(unittest.TestCase):
    def test_all_small_lists(self):
        for size, numbers in small_lists():
            self.assertEqual(in_order(size, numbers), plain_order(size, numbers), (size, numbers))
            self.assertEqual(bar_of(size, numbers), plain_bar(size, numbers), (size, numbers))

    def test_few_numbers(self):
        self.assertEqual(in_order(3, []), [])
        self.assertIsNone(bar_of(3, []))
        self.assertEqual(in_order(3, [2]), [2])
        self.assertEqual(in_order(10 ** 12, [9, 9, 9]), [9])
        self.assertIsNone(bar_of(10 ** 12, [9, 9, 9]))

    def test_over_the_turn_and_twice(self):
        self.assertEqual(in_order(10, [1, 8, 0, 9, 8, 1]), [8, 9, 0, 1])
        self.assertEqual(in_order(3, [0, 2, 0]), [2, 0])

    def test_far_goes_ahead_of_a_ring(self):
        self.assertEqual(bar_of(8, [7, 3, 2, 5, 0]), ("far", 3, 7))
        self.assertEqual(bar_of(8, [6, 4, 2, 0]), ("far", 0, 4))
        self.assertIsNone(in_order(8, [6, 4, 2, 0]))

    def test_first_of_several_rings(self):
        self.assertEqual(bar_of(3, [2, 1, 0]), ("ring", 0, 2, 1))
        self.assertEqual(bar_of(5, [4, 3, 2, 1, 0]), ("ring", 0, 3, 1))
        self.assertEqual(bar_of(7, [6, 4, 2, 1]), ("ring", 1, 6, 4))

    def test_great_lists(self):
        for size, numbers in great_lists():
            starts = [start for start in numbers if all(n == start or newer(size, n, start) for n in numbers)]
            order = in_order(size, numbers)
            if not starts:
                self.assertIsNone(order)
                self.assertEqual(bar_of(size, numbers), plain_bar(size, numbers))
                continue
            self.assertIsNone(bar_of(size, numbers))
            self.assertEqual(sorted(order), sorted(set(numbers)))
            for at in range(len(order)):
                self.assertTrue(all(newer(size, order[at], order[k]) for k in range(at)))

    def test_forty_in_a_row_of_a_great_round(self):
        size = 10 ** 12
        row = [(size - 20 + step) % size for step in range(40)]
        self.assertEqual(in_order(size, row[::-1]), row)
        self.assertEqual(in_order(size, row[7:] + row[:7]), row)

    def test_just_within_and_just_beyond_reach(self):
        size = 10 ** 12
        self.assertEqual(in_order(size, [size // 2 - 1, 0, 5]), [0, 5, size // 2 - 1])
        self.assertEqual(bar_of(size, [size // 2, 0, 5]), ("far", 0, size // 2))
        self.assertEqual(bar_of(size, [size // 2 + 1, 0, 5]), ("ring", 0, size // 2 + 1, 5))

    def test_nothing_handed_in_is_changed_and_what_is_told_is_the_askers(self):
        numbers = [4, 2, 3, 2]
        first = in_order(9, numbers)
        self.assertEqual(numbers, [4, 2, 3, 2])
        first.append(8)
        first[0] = 7
        self.assertEqual(in_order(9, numbers), [2, 3, 4])
        self.assertEqual(numbers, [4, 2, 3, 2])
        rising = [2, 3]
        self.assertIsNot(in_order(9, rising), rising)
        self.assertIsNot(in_order(9, rising), in_order(9, rising))
        empty = []
        in_order(9, empty).append(1)
        self.assertEqual(in_order(9, empty), [])
        self.assertEqual(empty, [])
        bar_of(9, numbers)
        window(9, numbers)
        self.assertEqual(numbers, [4, 2, 3, 2])

    def test_lists_and_tuples_are_told(self):
        self.assertIs(type(in_order(9, [1, 2])), list)
        self.assertIs(type(bar_of(4, [0, 2])), tuple)
        self.assertIs(type(window(9, [1, 2])), tuple)


class Windows(unittest.TestCase):
    def test_all_small_lists(self):
        for size, numbers in small_lists():
            if not numbers:
                continue
            spans = {start: max(steps_to(size, n, start) for n in numbers) for start in numbers}
            fewest = min(spans.values())
            least = min(start for start in spans if spans[start] == fewest)
            self.assertEqual(window(size, numbers), (least, fewest))

    def test_order_is_just_where_steps_is_at_most_reach(self):
        for size, numbers in list(small_lists()) + great_lists():
            if numbers:
                self.assertEqual(in_order(size, numbers) is not None, window(size, numbers)[1] <= reach(size))

    def test_one_number_and_several_that_are_as_good(self):
        self.assertEqual(window(3, [2]), (2, 0))
        self.assertEqual(window(3, [2, 2]), (2, 0))
        self.assertEqual(window(4, [2, 0]), (0, 2))
        self.assertEqual(window(9, [6, 3, 0]), (0, 6))
        self.assertEqual(window(9, [1, 8]), (8, 2))
        self.assertEqual(window(10 ** 12, [0, 10 ** 12 - 1, 3]), (10 ** 12 - 1, 4))

    def test_great_lists(self):
        for size, numbers in great_lists():
            best = None
            for start in sorted(numbers):
                span = max(n - start if n >= start else n - start + size for n in numbers)
                if best is None or span < best[1]:
                    best = (start, span)
            self.assertEqual(window(size, numbers), best)


if __name__ == "__main__":
    unittest.main()
