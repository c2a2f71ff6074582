import unittest
from itertools import product

from roundnews.houses import House
from roundnews.makes import is_make, is_safe, jump, least_round, most_alive
from tests.test_rounds import newer
from tests.things import deep, odd_things

LIVES_AND_GAPS = [(life, gap) for life in range(1, 31) for gap in range(1, 36)]


def plain_alive(life, gap):
    """How many of the news told at 0, gap, twice gap .. are below life as the last of them is told."""
    last = gap * (life + 2)
    return sum(1 for told in range(0, last + 1, gap) if last - told < life)


def plain_safe(size, many):
    """is_safe by its words, with no division: twice reach and one more is the round, or one less than it."""
    return 2 * (2 * many - 1) + 1 <= size


class IsMake(unittest.TestCase):
    def test_makes(self):
        for thing in ((3, 1, 1, 1, 1), (10 ** 12, 400, 400, 12, 60), (4, 7, 9, 1, 2), (3, 1, 10 ** 15, 1, 1)):
            self.assertIs(is_make(thing), True, thing)

    def test_bounds_are_not_looked_at(self):
        for place in range(5):
            thing = [3, 1, 1, 1, 1]
            thing[place] = 10 ** 30
            self.assertIs(is_make(tuple(thing)), True, thing)

    def test_each_number_at_its_least_and_below(self):
        least = (3, 1, 1, 1, 1)
        for place in range(5):
            for less in (1, 2, 3, 4, 10 ** 12):
                thing = least[:place] + (least[place] - less,) + least[place + 1:]
                self.assertIs(is_make(thing), False, thing)

    def test_an_unsafe_make_is_a_make(self):
        self.assertIs(is_make((3, 400, 1, 1, 1)), True)

    def test_parts_left_out_or_put_in(self):
        for thing in ((), (3,), (3, 1, 1, 1), (3, 1, 1, 1, 1, 1), ((3, 1, 1, 1, 1),), [(3, 1, 1, 1, 1)]):
            self.assertIs(is_make(thing), False, thing)

    def test_parts_of_other_kinds(self):
        strange = [None, True, False, "3", "", (), [], (3,), [3], deep(list, 3, 19), deep(tuple, 3, 19)]
        right = (5, 4, 3, 2, 1)
        for place, part in product(range(5), strange):
            self.assertIs(is_make(right[:place] + (part,) + right[place + 1:]), False, (place, part))

    def test_other_kinds(self):
        others = [None, "", "31111", [3, 1, 1, 1, 1], deep(tuple, (3, 1, 1, 1, 1), 19), deep(list, 3), (True,) * 5]
        for thing in odd_things() + others:
            self.assertIs(is_make(thing), False, thing)

    def test_what_is_asked_about_stays(self):
        thing = [3, [1, 1], (1,), None]
        is_make(thing)
        self.assertEqual(thing, [3, [1, 1], (1,), None])


class Alive(unittest.TestCase):
    def test_some(self):
        for life, gap, many in (
            (1, 1, 1), (2, 1, 2), (2, 2, 1), (3, 2, 2), (4, 2, 2), (5, 2, 3), (10, 3, 4), (11, 3, 4), (9, 3, 3),
            (7, 7, 1), (8, 7, 2), (7, 400, 1), (400, 1, 400), (400, 400, 1), (400, 399, 2),
        ):
            self.assertEqual(most_alive((5, life, gap, 1, 1)), many, (life, gap))
            self.assertEqual(jump((5, life, gap, 1, 1)), many, (life, gap))

    def test_all_small_ones(self):
        for life, gap in LIVES_AND_GAPS:
            self.assertEqual(most_alive((3, life, gap, 2, 9)), plain_alive(life, gap), (life, gap))
            self.assertEqual(jump((3, life, gap, 2, 9)), plain_alive(life, gap), (life, gap))

    def test_round_room_and_beat_do_not_matter(self):
        for size, room, beat in product((3, 4, 10 ** 12), (1, 12), (1, 60)):
            self.assertEqual(most_alive((size, 10, 3, room, beat)), 4)
            self.assertEqual(jump((size, 10, 3, room, beat)), 4)


class Safe(unittest.TestCase):
    def test_some(self):
        # Of one alive at once a round of 3 will do, whose reach is 1; each one more takes four numbers more.
        for life, gap, least in (
            (1, 1, 3), (5, 5, 3), (2, 1, 7), (3, 1, 11), (10, 3, 15), (400, 1, 1599), (400, 399, 7),
        ):
            self.assertEqual(least_round(life, gap), least, (life, gap))
            self.assertIs(is_safe((least, life, gap, 1, 1)), True)
            if least > 3:
                self.assertIs(is_safe((least - 1, life, gap, 1, 1)), False)

    def test_both_sides_of_the_least_safe_round(self):
        for life, gap in LIVES_AND_GAPS:
            many = plain_alive(life, gap)
            least = least_round(life, gap)
            self.assertIs(plain_safe(least, many), True)
            self.assertTrue(least == 3 or not plain_safe(least - 1, many))
            for size in range(3, least + 5):
                self.assertIs(is_safe((size, life, gap, 1, 1)), size >= least, (size, life, gap))
            self.assertIs(is_safe((10 ** 12, life, gap, 1, 1)), True)

    def test_room_and_beat_do_not_matter(self):
        for room, beat in product((1, 12), (1, 60)):
            self.assertIs(is_safe((15, 10, 3, room, beat)), True)
            self.assertIs(is_safe((14, 10, 3, room, beat)), False)

    def test_what_is_told_behind_a_fall_is_newer_than_all_that_is_about(self):
        for life, gap in ((1, 1), (4, 1), (5, 2), (6, 2), (9, 4), (3, 7)):
            size = least_round(life, gap)
            many = plain_alive(life, gap)
            make = (size, life, gap, 3, 5)
            for newest in range(size):
                about = [(newest - back) % size for back in range(many)]
                for heeded in about:
                    house = House(2, make, life)
                    house.hear(1, ("news", (2, heeded, 0, "old")))
                    house.wish("anew")
                    house.speak()
                    told = house.number()
                    self.assertTrue(all(newer(size, told, number) for number in about), (make, newest, heeded))


if __name__ == "__main__":
    unittest.main()
