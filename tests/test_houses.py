"""Promise [9]: houses that tell, wait their gap, are hushed, and what they have; beside PlainHouse [10], too."""

import random
import unittest
from itertools import product

from roundnews.houses import House
from tests.plain import PlainHouse, mark

# Round 15, life 10, gap 3, room 2, beat 4: safe, with jump 4.
MAKE = (15, 10, 3, 2, 4)


def house_of(house, make, hush, near=(), some=()):
    """A House with these neighbours and others' news."""
    found = House(house, make, hush)
    for neighbour in near:
        found.join(neighbour)
    for news in some:
        found.hear(11, ("news", news))
    return found


def pass_ticks(house, many):
    return [house.tick() for _ in range(many)]


class Begin(unittest.TestCase):
    def test_a_new_house_has_nothing(self):
        for hush in (0, 10):
            house = House(3, MAKE, hush)
            self.assertIsNone(house.number())
            self.assertIsNone(house.own())
            self.assertIs(house.has_wish(), False)
            self.assertEqual(house.neighbours(), [])
            self.assertEqual(house.held(), [])
            self.assertEqual(house.lists(), [])
            self.assertEqual(house.speak(), [])
            self.assertEqual(house.tick(), [])
            self.assertIsNone(house.number())


class Neighbours(unittest.TestCase):
    def test_they_rise(self):
        self.assertEqual(house_of(3, MAKE, 0, (7, 0, 11, 4)).neighbours(), [0, 4, 7, 11])

    def test_joined_twice(self):
        house = house_of(3, MAKE, 0, (7, 0, 7, 7))
        self.assertEqual(house.neighbours(), [0, 7])
        self.assertEqual(house.lists(), [(0, ("list", ())), (7, ("list", ()))])
        house.part(7)
        self.assertEqual(house.neighbours(), [0])

    def test_parted(self):
        house = house_of(3, MAKE, 0, (7, 0, 4))
        self.assertIsNone(house.part(4))
        self.assertEqual(house.neighbours(), [0, 7])
        self.assertIsNone(house.join(4))
        self.assertEqual(house.neighbours(), [0, 4, 7])

    def test_parted_that_were_none(self):
        house = house_of(3, MAKE, 0, (7,))
        house.part(4)
        house.part(4)
        self.assertEqual(house.neighbours(), [7])
        house.part(7)
        house.part(7)
        self.assertEqual(house.neighbours(), [])


class Speak(unittest.TestCase):
    def test_the_first_one(self):
        house = house_of(3, MAKE, 0, (7, 0))
        self.assertIsNone(house.wish("ab"))
        self.assertIs(house.has_wish(), True)
        self.assertIsNone(house.own())
        news = (3, 0, 0, "ab")
        self.assertEqual(house.speak(), [(0, ("news", news)), (7, ("news", news))])
        self.assertEqual((house.number(), house.own(), house.held()), (0, news, [news]))
        self.assertIs(house.has_wish(), False)

    def test_without_a_wish(self):
        house = house_of(3, MAKE, 0, (7, 0))
        self.assertEqual(house.speak(), [])
        house.wish("a")
        house.speak()
        pass_ticks(house, 5)
        self.assertEqual(house.speak(), [])
        self.assertEqual((house.number(), house.own()), (0, (3, 0, 5, "a")))

    def test_none_and_no_words_are_wishes(self):
        for words in (None, ""):
            house = house_of(3, MAKE, 0, (7,))
            house.wish(words)
            self.assertIs(house.has_wish(), True)
            self.assertEqual(house.speak(), [(7, ("news", (3, 0, 0, words)))])
            self.assertIs(house.has_wish(), False)
            self.assertEqual(house.own(), (3, 0, 0, words))

    def test_a_wish_over_a_wish(self):
        house = house_of(3, MAKE, 0, (7,))
        for words in ("a", None, "b"):
            house.wish(words)
        self.assertEqual(house.speak(), [(7, ("news", (3, 0, 0, "b")))])
        self.assertIs(house.has_wish(), False)
        pass_ticks(house, 3)
        self.assertEqual(house.speak(), [])
        house.wish("c")
        house.wish(None)
        self.assertEqual(house.speak(), [(7, ("news", (3, 1, 0, None)))])

    def test_it_waits_its_gap(self):
        house = house_of(3, MAKE, 0, (7,))
        house.wish("a")
        house.speak()
        house.wish("b")
        for passed in range(3):
            self.assertEqual(house.speak(), [])
            self.assertEqual((house.number(), house.own()), (0, (3, 0, passed, "a")))
            self.assertIs(house.has_wish(), True)
            house.tick()
        self.assertEqual(house.speak(), [(7, ("news", (3, 1, 0, "b")))])
        house.wish("c")
        pass_ticks(house, 2)
        self.assertEqual(house.speak(), [])
        pass_ticks(house, 4)
        self.assertEqual(house.speak(), [(7, ("news", (3, 2, 0, "c")))])

    def test_a_gap_of_one(self):
        house = house_of(3, (7, 2, 1, 1, 1), 0, (7,))
        for number in (0, 1, 2, 3, 4, 5, 6, 0, 1):
            house.wish("a")
            self.assertEqual(house.speak(), [(7, ("news", (3, number, 0, "a")))])
            house.wish("b")
            self.assertEqual(house.speak(), [])
            house.tick()

    def test_numbers_come_round(self):
        house = house_of(3, (4, 3, 2, 1, 1), 0, (7,))
        for number in (0, 1, 2, 3, 0, 1, 2, 3, 0):
            house.wish(None)
            self.assertEqual(house.speak(), [(7, ("news", (3, number, 0, None)))])
            pass_ticks(house, 2)

    def test_without_neighbours(self):
        house = House(3, MAKE, 0)
        house.wish("a")
        self.assertEqual(house.speak(), [])
        self.assertEqual((house.number(), house.own(), house.has_wish()), (0, (3, 0, 0, "a"), False))

    def test_those_joined_later_and_parted_get_none(self):
        house = house_of(3, MAKE, 0, (7, 5))
        house.part(5)
        house.wish("a")
        self.assertEqual(house.speak(), [(7, ("news", (3, 0, 0, "a")))])
        house.join(6)
        house.wish("b")
        pass_ticks(house, 3)
        self.assertEqual([neighbour for neighbour, _ in house.speak()], [6, 7])

    def test_a_hushed_one_tells_its_first_wish_life_ticks_behind(self):
        house = house_of(3, MAKE, 10, (7,))
        house.wish("a")
        for _ in range(10):
            self.assertEqual(house.speak(), [])
            self.assertIsNone(house.number())
            self.assertIs(house.has_wish(), True)
            house.tick()
        self.assertEqual(house.speak(), [(7, ("news", (3, 0, 0, "a")))])

    def test_a_wish_behind_the_hush_is_told_at_once(self):
        house = house_of(3, MAKE, 10, (7,))
        pass_ticks(house, 25)
        house.wish("a")
        self.assertEqual(house.speak(), [(7, ("news", (3, 0, 0, "a")))])

    def test_a_hushed_one_that_has_a_number_speaks(self):
        house = house_of(3, MAKE, 10, (7,))
        house.wish("a")
        house.tick()
        self.assertEqual(house.speak(), [])
        house.hear(7, ("news", (3, 13, 4, "old")))
        self.assertEqual(house.speak(), [(7, ("news", (3, 2, 0, "a")))])


class Has(unittest.TestCase):
    """lists, tick, number, own, held."""

    def setUp(self):
        self.house = house_of(3, MAKE, 0, (7, 0), [(5, 14, 8, "x"), (1, 2, 7, None)])
        self.house.wish("ab")
        self.house.speak()

    def test_held(self):
        self.assertEqual(self.house.held(), [(1, 2, 7, None), (3, 0, 0, "ab"), (5, 14, 8, "x")])
        self.assertEqual(self.house.own(), (3, 0, 0, "ab"))

    def test_its_own_first_or_last(self):
        for house, place in ((0, 0), (11, 2)):
            found = house_of(house, MAKE, 0, (), [(5, 14, 8, "x"), (1, 2, 7, None)])
            found.wish("a")
            found.speak()
            self.assertEqual([news[0] for news in found.held()].index(house), place)

    def test_its_own_needs_no_room(self):
        house = house_of(3, (15, 10, 3, 1, 4), 0, (), [(5, 14, 8, "x")])
        house.wish("a")
        house.speak()
        self.assertEqual(house.held(), [(3, 0, 0, "a"), (5, 14, 8, "x")])

    def test_lists(self):
        marks = ((1, 2, 0, 7), (3, 0, 201, 0), (5, 14, 90, 8))
        mailing = self.house.lists()
        self.assertEqual(mailing, [(0, ("list", marks)), (7, ("list", marks))])
        self.assertEqual(self.house.lists(), mailing)
        self.assertEqual(House(3, MAKE, 0).lists(), [])

    def test_lists_without_news_go_out_too(self):
        self.assertEqual(house_of(3, MAKE, 10, (9,)).lists(), [(9, ("list", ()))])

    def test_ticks_and_ends(self):
        self.assertEqual(self.house.tick(), [])
        self.assertEqual(self.house.held(), [(1, 2, 8, None), (3, 0, 1, "ab"), (5, 14, 9, "x")])
        self.assertEqual(self.house.tick(), [5])
        self.assertEqual(self.house.tick(), [1])
        self.assertEqual(pass_ticks(self.house, 6), [[]] * 6)
        self.assertEqual(self.house.held(), [(3, 0, 9, "ab")])
        self.assertEqual(self.house.tick(), [3])
        self.assertEqual((self.house.held(), self.house.own(), self.house.number()), ([], None, 0))
        self.assertEqual(self.house.lists(), [(0, ("list", ())), (7, ("list", ()))])
        self.assertEqual(pass_ticks(self.house, 3), [[]] * 3)

    def test_what_ends_in_one_tick_rises(self):
        house = house_of(3, MAKE, 0, (7,), [(5, 14, 0, "x"), (1, 2, 0, None)])
        house.wish("a")
        house.speak()
        self.assertEqual(pass_ticks(house, 9), [[]] * 9)
        self.assertEqual(house.tick(), [1, 3, 5])

    def test_its_number_goes_on_behind_the_end_of_its_news(self):
        pass_ticks(self.house, 10)
        self.assertIsNone(self.house.own())
        self.house.wish("c")
        self.house.speak()
        self.assertEqual(self.house.own(), (3, 1, 0, "c"))

    def test_a_wish_is_no_news(self):
        self.house.wish("zz")
        self.assertEqual(self.house.own(), (3, 0, 0, "ab"))
        self.assertEqual(self.house.held()[1], (3, 0, 0, "ab"))
        pass_ticks(self.house, 10)
        self.assertEqual((self.house.own(), self.house.has_wish()), (None, True))

    def test_lists_told_are_the_asker_s_own(self):
        for ask in (self.house.held, self.house.neighbours, self.house.lists):
            told = ask()
            again = list(told)
            told.clear()
            self.assertEqual(ask(), again)
            self.assertIsNot(ask(), ask())
        house = house_of(3, MAKE, 0, (7, 0))
        house.wish("a")
        house.speak().clear()
        house.tick().append(99)
        self.assertEqual((house.own(), house.neighbours(), house.tick()), ((3, 0, 1, "a"), [0, 7], []))

    def test_kinds(self):
        self.assertIs(type(self.house.lists()), list)
        self.assertTrue(all(type(pair) is tuple and type(pair[1]) is tuple for pair in self.house.lists()))
        self.assertIs(type(self.house.lists()[0][1][1]), tuple)
        self.assertIs(type(self.house.own()), tuple)
        self.assertIs(type(self.house.number()), int)


class AgainstPlain(unittest.TestCase):
    """Long runs of one house, all that it tells beside what a plain rendering of the document's words tells."""

    def some_news(self, chance, make):
        size, life = make[:2]
        words = chance.choice([None, "", "a", "b", "!!", "# "])
        return (chance.randrange(5), chance.randrange(size), chance.randrange(life + 2), words)

    def do(self, chance, make, house, plain):
        """One thing done to both; the two answers."""
        what, near = chance.randrange(10), chance.choice([6, 7, 8])
        if what < 3:
            news = self.some_news(chance, make)
            return house.hear(near, ("news", news)), plain.hear_news(near, news)
        if what == 3:
            some = {news[0]: news for news in [self.some_news(chance, make) for _ in range(chance.randrange(5))]}
            rising = [some[teller] for teller in sorted(some)]
            return house.hear(near, ("list", tuple(mark(news) for news in rising))), plain.hear_list(near, rising)
        if what == 4:
            tellers = tuple(teller for teller in range(5) if chance.randrange(2))
            return house.hear(near, ("want", tellers)), plain.hear_want(near, tellers)
        if what == 5:
            words = chance.choice([None, "", "c"])
            return house.wish(words), plain.wish(words)
        if what == 6:
            if chance.randrange(3):
                return house.join(near), plain.join(near)
            return house.part(near), plain.part(near)
        if what == 7:
            return house.lists(), plain.lists()
        if what == 8:
            return house.speak(), plain.speak()
        return house.tick(), plain.tick()

    def check(self, chance, make, own, hush):
        house, plain = House(own, make, hush), PlainHouse(own, make, hush)
        for step in range(120):
            found, right = self.do(chance, make, house, plain)
            self.assertEqual(found, right, (make, step))
            self.assertEqual(house.held(), plain.all_news())
            self.assertEqual([house.own()], plain.mine or [None])
            self.assertEqual(house.number(), plain.last)
            self.assertIs(house.has_wish(), plain.wishes != [])
            self.assertEqual(house.neighbours(), sorted(plain.near))

    def test_runs_of_all_kinds(self):
        chance = random.Random(10)
        for size, life, gap, room in product((3, 4, 7, 15), (1, 2, 5, 9), (1, 2, 4), (1, 2, 5)):
            make = (size, life, gap, room, 3)
            for own, hush in ((0, 0), (2, life), (4, 0)):
                self.check(chance, make, own, hush)


if __name__ == "__main__":
    unittest.main()
