"""Promise [10]: what a house does with each letter; and what [1] and [2] promise of houses."""

import copy
import unittest
from itertools import product

from roundnews.houses import House
from roundnews.makes import least_round
from roundnews.news import mark_of
from tests.test_houses import MAKE, house_of, pass_ticks
from tests.test_rounds import newer

NOTHING = ([], [])


def state(house):
    return (house.number(), house.own(), house.has_wish(), house.held(), house.neighbours())


def at_number(number, hush=0, near=(0, 7), some=()):
    """House 3, whose number this is, with no news of its own and no wish."""
    house = house_of(3, MAKE, hush, near, some)
    # It heeds, by jump less 1, which is 3.
    house.hear(7, ("news", (3, (number - 3) % 15, 9, "old")))
    assert state(house)[:3] == (number, None, False)
    return house


def spoken(number, words, near=(0, 7), some=()):
    """House 3, which has just told these words with this number, and may have others' news."""
    house = at_number((number - 1) % 15, 0, near, some)
    house.wish(words)
    house.speak()
    assert state(house)[:3] == (number, (3, number, 0, words), False)
    return house


class OwnNews(unittest.TestCase):
    def check_nothing(self, house, news):
        before = state(house)
        self.assertEqual(house.hear(7, ("news", news)), NOTHING)
        self.assertEqual(state(house), before)

    def test_ended(self):
        for age in (10, 11, 1000):
            self.check_nothing(House(3, MAKE, 0), (3, 5, age, "a"))
            self.check_nothing(House(3, MAKE, 10), (3, 5, age, "a"))
            self.check_nothing(at_number(4), (3, 5, age, "a"))
            # Its own would be the newer one, but what has ended is not even answered.
            self.check_nothing(spoken(4, "b"), (3, 3, age, "a"))

    def test_it_heeds_where_it_has_no_number(self):
        for hush, number in product((0, 10), range(15)):
            house = house_of(3, MAKE, hush, (0, 7))
            told = (number + 3) % 15
            self.assertEqual(house.hear(7, ("news", (3, number, 9, "a"))), ([("heeded", told)], []))
            self.assertEqual(state(house), (told, None, False, [], [0, 7]))

    def test_it_heeds_what_is_newer_than_its_number(self):
        for mine, number in product(range(15), range(15)):
            house = at_number(mine)
            right = NOTHING, mine
            if newer(15, number, mine):
                right = ([("heeded", (number + 3) % 15)], []), (number + 3) % 15
            self.assertEqual((house.hear(7, ("news", (3, number, 0, "a"))), house.number()), right, (mine, number))
            self.assertEqual((house.own(), house.has_wish(), house.held()), (None, False, []))

    def test_a_jump_of_one_and_of_many(self):
        for size, life, gap, many in ((3, 5, 5, 1), (7, 2, 1, 2), (1599, 400, 1, 400)):
            house = House(3, (size, life, gap, 1, 1), life)
            told = (size - 1 + many - 1) % size
            self.assertEqual(house.hear(0, ("news", (3, size - 1, 0, "a"))), ([("heeded", told)], []))
            self.assertEqual(house.number(), told)

    def test_it_tells_its_own_news_anew_where_it_has_no_wish(self):
        for words in ("b", "", None):
            house = spoken(4, words)
            house.tick()
            self.assertEqual(house.hear(7, ("news", (3, 6, 0, "a"))), ([("heeded", 9)], []))
            # Its own news stays as it is till it speaks, its gap behind the last time.
            self.assertEqual(state(house), (9, (3, 4, 1, words), True, [(3, 4, 1, words)], [0, 7]))
            self.assertEqual(house.speak(), [])
            pass_ticks(house, 2)
            news = (3, 10, 0, words)
            self.assertEqual(house.speak(), [(0, ("news", news)), (7, ("news", news))])
            self.assertEqual(house.held(), [news])

    def test_it_keeps_a_wish_that_it_has(self):
        for words in ("c", None):
            house = spoken(4, "b")
            house.wish(words)
            self.assertEqual(house.hear(7, ("news", (3, 6, 0, "a"))), ([("heeded", 9)], []))
            pass_ticks(house, 3)
            house.speak()
            self.assertEqual(house.own(), (3, 10, 0, words))

    def test_where_it_has_no_news_of_its_own_it_wishes_none(self):
        house = spoken(4, "b")
        self.assertIn(3, sum(pass_ticks(house, 10), []))
        house.hear(7, ("news", (3, 6, 0, "a")))
        self.assertEqual(state(house), (9, None, False, [], [0, 7]))

    def test_what_it_does_not_heed_changes_no_wish(self):
        house = spoken(4, "b")
        house.hear(7, ("news", (3, 3, 0, "a")))
        self.assertIs(house.has_wish(), False)

    def test_its_own_news_goes_where_it_is_newer(self):
        for news in ((3, 3, 0, "a"), (3, 12, 0, "a"), (3, 4, 0, "a"), (3, 4, 0, None), (3, 4, 1, "b"), (3, 4, 9, "b")):
            house = spoken(4, "b")
            before = state(house)
            self.assertEqual(house.hear(0, ("news", news)), ([], [(0, ("news", (3, 4, 0, "b")))]), news)
            self.assertEqual(state(house), before)

    def test_its_own_news_goes_to_that_house_though_it_is_no_neighbour(self):
        house = spoken(4, "b")
        self.assertEqual(house.hear(9, ("news", (3, 3, 0, "a"))), ([], [(9, ("news", (3, 4, 0, "b")))]))

    def test_its_own_news_stays_where_it_is_not_newer(self):
        house = spoken(4, "b")
        house.tick()
        # The same mark, a lesser age, a greater sum: none is heeded either, since the number is its own.
        for news in ((3, 4, 1, "b"), (3, 4, 0, "b"), (3, 4, 9, "c")):
            self.check_nothing(house, news)

    def test_half_a_round_apart_nothing_is_done(self):
        house = House(3, (16, 10, 3, 2, 4), 0)
        house.wish("b")
        house.speak()
        self.check_nothing(house, (3, 8, 0, "a"))

    def test_without_news_of_its_own_nothing_goes(self):
        for number in (4, 3, 12):
            self.check_nothing(at_number(4), (3, number, 0, "a"))

    def test_its_number_counts_not_that_of_its_own_news(self):
        house = spoken(4, "b")
        house.hear(7, ("news", (3, 6, 0, "a")))
        # 8 is newer than its own news, which is 4, but not than its number, which is 9.
        before = state(house)
        self.assertEqual(house.hear(7, ("news", (3, 8, 0, "a"))), NOTHING)
        self.assertEqual(house.hear(7, ("news", (3, 3, 0, "a"))), ([], [(7, ("news", (3, 4, 0, "b")))]))
        self.assertEqual(state(house), before)


class OthersNews(unittest.TestCase):
    def setUp(self):
        self.some = [(4, 2, 3, "d"), (6, 2, 3, "f")]
        self.house = house_of(3, MAKE, 0, (0, 7, 9), self.some)

    def check(self, neighbour, news, told, held):
        self.assertEqual(self.house.hear(neighbour, ("news", news)), told)
        self.assertEqual(self.house.held(), held)

    def test_new(self):
        news = (5, 0, 9, None)
        house = house_of(3, MAKE, 0, (0, 7, 9))
        told = house.hear(7, ("news", news))
        self.assertEqual(told, ([("took", 7, news)], [(0, ("news", news)), (9, ("news", news))]))
        self.assertEqual(house.held(), [news])

    def test_newer(self):
        news = (6, 3, 4, "g")
        to = [(7, ("news", news)), (9, ("news", news))]
        self.check(0, news, ([("took", 0, news)], to), [self.some[0], news])

    def test_new_with_a_teller_gone(self):
        news = (5, 0, 0, "e")
        to = [(0, ("news", news)), (7, ("news", news))]
        self.check(9, news, ([("took", 9, news), ("dropped", 6)], to), [self.some[0], news])

    def test_of_one_that_is_no_neighbour(self):
        news = (6, 3, 4, "g")
        to = [(0, ("news", news)), (7, ("news", news)), (9, ("news", news))]
        self.check(11, news, ([("took", 11, news)], to), [self.some[0], news])

    def test_of_the_only_neighbour(self):
        house = house_of(3, MAKE, 0, (7,))
        self.assertEqual(house.hear(7, ("news", (5, 0, 0, "e"))), ([("took", 7, (5, 0, 0, "e"))], []))
        self.assertEqual(House(3, MAKE, 0).hear(7, ("news", (5, 0, 0, "e"))), ([("took", 7, (5, 0, 0, "e"))], []))

    def test_older(self):
        for news in ((6, 1, 0, "z"), (6, 2, 0, "e"), (6, 2, 4, "f"), (6, 10, 0, "f")):
            self.check(7, news, ([], [(7, ("news", self.some[1]))]), self.some)
        self.check(11, (6, 1, 0, "z"), ([], [(11, ("news", self.some[1]))]), self.some)

    def test_same_full_and_ended(self):
        for news in ((6, 2, 3, "f"), (7, 0, 0, "full"), (6, 3, 10, "ended"), (5, 0, 11, "ended"), (6, 1, 10, "ended")):
            self.check(7, news, NOTHING, self.some)

    def test_it_changes_nothing_of_its_own(self):
        house = spoken(4, "b")
        house.wish("c")
        house.hear(7, ("news", (5, 9, 0, "e")))
        self.assertEqual(state(house), (4, (3, 4, 0, "b"), True, [(3, 4, 0, "b"), (5, 9, 0, "e")], [0, 7]))
        self.assertEqual(house.hear(7, ("news", (5, 8, 0, "e"))), ([], [(7, ("news", (5, 9, 0, "e")))]))


class Lists(unittest.TestCase):
    def setUp(self):
        self.house = spoken(4, "b", (0, 7), [(1, 2, 3, "a"), (5, 2, 3, None)])
        self.one, self.own, self.five = self.house.held()

    def check(self, marks, news, want, house=None):
        """The news and the want that go to house 0."""
        asked = house or self.house
        before = state(asked)
        letters = [(0, ("news", one)) for one in news] + ([(0, ("want", want))] if want else [])
        self.assertEqual(asked.hear(0, ("list", tuple(marks))), ([], letters), marks)
        self.assertEqual(state(asked), before)

    def test_an_empty_list(self):
        self.check((), [self.one, self.own, self.five], ())
        self.check((), [], (), House(3, MAKE, 0))

    def test_a_list_like_its_own(self):
        self.check([mark_of(news) for news in self.house.held()], [], ())

    def test_what_is_lacked_and_older_there(self):
        self.check([mark_of(self.own)], [self.one, self.five], ())
        self.check([mark_of(self.one), (3, 3, 9, 0), mark_of(self.five)], [self.own], ())
        self.check([mark_of(self.one), (3, 4, 0, 0), mark_of(self.five)], [self.own], ())
        self.check([mark_of(self.one), (3, 4, 68, 1), mark_of(self.five)], [self.own], ())
        self.check([(1, 1, 9, 0), mark_of(self.own), (5, 2, 0, 4)], [self.one, self.five], ())

    def test_marks_at_life_and_beyond_are_as_none(self):
        for age in (10, 11, 1000):
            self.check([(1, 3, 9, age), (3, 5, 9, age), (5, 3, 9, age)], [self.one, self.own, self.five], ())
            self.check([(1, 2, 66, age), (3, 4, 67, 9), (5, 2, 0, age)], [self.one, self.own, self.five], ())
        self.check([(1, 3, 9, 9), (3, 5, 9, 9), (5, 3, 9, 9)], [], (1, 3, 5))

    def test_wants_of_its_book(self):
        self.check([(1, 3, 9, 9), mark_of(self.own), mark_of(self.five)], [], (1,))
        self.check([(1, 2, 66, 2), mark_of(self.own), (4, 0, 1, 9), mark_of(self.five)], [self.one], (4,))
        # Room is 2: of those beyond the greatest teller none is wanted, of those below each one by itself.
        marks = [(0, 0, 1, 0), mark_of(self.one), (2, 0, 1, 0), mark_of(self.own), (4, 0, 1, 0), mark_of(self.five)]
        self.check(marks + [(6, 0, 1, 0), (11, 0, 1, 0)], [], (0, 2, 4))

    def test_the_want_is_behind_the_news(self):
        self.check([(0, 0, 1, 0), (1, 1, 1, 0), (5, 3, 0, 9)], [self.one, self.own], (0, 5))

    def test_itself_by_its_number(self):
        for number in range(15):
            house = at_number(4)
            self.check([(3, number, 9, 9)], [], (3,) if newer(15, number, 4) else (), house)

    def test_itself_without_a_number(self):
        for hush in (0, 10):
            self.check([(3, 14, 9, 9)], [], (3,), House(3, MAKE, hush))
            self.check([(3, 14, 9, 10)], [], (), House(3, MAKE, hush))
            self.check([(3, 14, 9, 9), (4, 0, 0, 10), (6, 0, 0, 9)], [], (3, 6), House(3, MAKE, hush))
            self.check([(2, 14, 9, 9)], [], (2,), House(3, MAKE, hush))

    def test_itself_by_its_number_not_by_its_own_news(self):
        self.house.hear(7, ("news", (3, 6, 0, "a")))
        self.assertEqual((self.house.number(), self.house.own()), (9, self.own))
        known = [mark_of(self.one), mark_of(self.five)]
        self.check([known[0], (3, 8, 9, 0), known[1]], [], ())
        self.check([known[0], (3, 9, 9, 0), known[1]], [], ())
        self.check([known[0], (3, 10, 9, 0), known[1]], [], (3,))
        self.check([known[0], (3, 3, 9, 0), known[1]], [self.own], ())

    def test_of_one_number_of_its_own_with_a_greater_sum_nothing(self):
        self.check([mark_of(self.one), (3, 4, 9000, 0), mark_of(self.five)], [], ())

    def test_to_one_that_is_no_neighbour(self):
        told = self.house.hear(11, ("list", ((0, 0, 1, 0), mark_of(self.one), mark_of(self.own))))
        self.assertEqual(told, ([], [(11, ("news", self.five)), (11, ("want", (0,)))]))

    def test_kinds(self):
        happened, mailing = self.house.hear(0, ("list", ((0, 0, 1, 0),)))
        self.assertIs(type(happened), list)
        self.assertIs(type(mailing), list)
        self.assertIs(type(mailing[-1][1][1]), tuple)


class Wants(unittest.TestCase):
    def setUp(self):
        self.house = spoken(4, "b", (0, 7), [(1, 2, 3, "a"), (5, 2, 3, None)])
        self.one, self.own, self.five = self.house.held()

    def check(self, tellers, news):
        before = state(self.house)
        for neighbour in (7, 11):
            told = ([], [(neighbour, ("news", one)) for one in news])
            self.assertEqual(self.house.hear(neighbour, ("want", tellers)), told)
        self.assertEqual(state(self.house), before)

    def test_what_it_has_of_these(self):
        self.check((1, 3, 5), [self.one, self.own, self.five])
        self.check((0, 1, 2, 4, 11), [self.one])
        self.check((3,), [self.own])
        self.check((5, 6), [self.five])

    def test_what_it_has_not(self):
        self.check((), [])
        self.check((0, 2, 4, 6), [])

    def test_what_has_ended(self):
        pass_ticks(self.house, 7)
        self.check((1, 3, 5), [(3, 4, 7, "b")])
        pass_ticks(self.house, 3)
        self.check((1, 3, 5), [])


class Whole(unittest.TestCase):
    def test_what_is_told_is_the_asker_s_own(self):
        house = spoken(4, "b", (0, 7), [(1, 2, 3, "a")])
        before = state(house)
        for letter in (("list", ((9, 0, 1, 0),)), ("want", (1, 3)), ("news", (3, 3, 0, "a")), ("news", (1, 1, 0, "a"))):
            told = house.hear(7, letter)
            again = copy.deepcopy(told)
            self.assertNotEqual(again, NOTHING)
            told[0].append(99)
            told[1].clear()
            self.assertEqual(house.hear(7, letter), again)
            self.assertEqual(state(house), before)

    def test_houses_of_one_make_have_things_of_their_own(self):
        one, other = House(3, MAKE, 0), House(4, MAKE, 0)
        one.join(7)
        one.wish("a")
        one.hear(7, ("news", (5, 0, 0, "e")))
        self.assertEqual(state(other), (None, None, False, [], []))

    def test_never_more_than_room_of_others(self):
        for room in range(1, 12):
            house = house_of(5, (15, 10, 3, room, 4), 0, (0,))
            house.wish("a")
            house.speak()
            for teller in (9, 3, 11, 0, 10, 1, 2, 8, 7, 4, 6):
                house.hear(0, ("news", (teller, 0, 0, "x")))
                others = [news[0] for news in house.held() if news[0] != 5]
                self.assertLessEqual(len(others), room)
            self.assertEqual(others, [0, 1, 2, 3, 4, 6, 7, 8, 9, 10, 11][:room])

    def test_what_was_told_ahead_of_a_taking_back_does_not_come_back(self):
        house = house_of(3, MAKE, 0, (0, 7))
        house.hear(0, ("news", (5, 1, 0, None)))
        for news in ((5, 0, 0, "a"), (5, 0, 9, "a")):
            self.assertEqual(house.hear(7, ("news", news)), ([], [(7, ("news", (5, 1, 0, None)))]))
        self.assertEqual(house.held(), [(5, 1, 0, None)])

    def test_what_has_ended_does_not_come_back(self):
        house = house_of(3, MAKE, 0, (0, 7), [(5, 1, 8, "a")])
        self.assertEqual(pass_ticks(house, 2), [[], [5]])
        for age in (10, 12):
            self.assertEqual(house.hear(7, ("news", (5, 1, age, "a"))), NOTHING)
            self.assertEqual(house.hear(7, ("list", ((5, 1, 66, age),))), NOTHING)
        self.assertEqual(house.held(), [])

    def test_a_house_begun_anew_goes_on_behind_all_that_it_told(self):
        """By a safe make: whichever old news it hears first, however many come in whatever order behind it."""
        for life, gap in ((1, 1), (4, 1), (5, 2), (9, 4)):
            size = least_round(life, gap)
            many = (life + gap - 1) // gap
            for newest, first in product(range(size), range(many)):
                about = [(newest - back) % size for back in range(many)]
                house = House(3, (size, life, gap, 2, 4), life)
                house.wish("anew")
                for number in about[first:] + about[:first]:
                    house.hear(7, ("news", (3, number, 0, "old")))
                house.speak()
                told = house.own()[1]
                self.assertTrue(all(newer(size, told, number) for number in about), (size, newest, first))

    def test_two_houses_ask_for_what_they_lack(self):
        make = (15, 10, 3, 3, 4)
        one = house_of(1, make, 0, (2,), [(5, 3, 4, "e")])
        two = house_of(2, make, 0, (1,), [(5, 2, 0, "d"), (4, 0, 0, None)])
        for house, words in ((one, "x"), (two, "y")):
            house.wish(words)
            house.speak()
        letters = [(to, 1, letter) for to, letter in one.lists()]
        while letters:
            to, sender, letter = letters.pop(0)
            house = {1: one, 2: two}[to]
            letters += [(then, to, answer) for then, answer in house.hear(sender, letter)[1]]
        for house in (one, two):
            self.assertEqual(house.held(), [(1, 0, 0, "x"), (2, 0, 0, "y"), (4, 0, 0, None), (5, 3, 4, "e")])


if __name__ == "__main__":
    unittest.main()
