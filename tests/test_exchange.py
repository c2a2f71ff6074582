import copy
import random
import unittest
from itertools import product

from roundnews.books import Book
from roundnews.exchange import after, exchange
from tests.plain import PlainBook, mark
from tests.test_news import plain_newer

MAKE = (7, 5, 2, 3, 4)


def plain_to(size, giver, getter):
    """What the giver has and the getter lacks, or has older."""
    found = []
    for news in giver:
        same = [other for other in getter if other[0] == news[0]]
        if not same or plain_newer(size, mark(news), mark(same[0])):
            found.append(news)
    return found


def some_held(chance, size, life, tellers):
    """News of unlike tellers, by rising tellers."""
    words = [None, "", "a", "b", "!!", "# "]
    return [
        (teller, chance.randrange(size), chance.randrange(life), chance.choice(words))
        for teller in tellers if chance.randrange(3) > 0
    ]


class Exchange(unittest.TestCase):
    def test_nothing(self):
        self.assertEqual(exchange(7, [], []), ([], []))
        some = [(1, 0, 0, "a"), (3, 2, 1, None)]
        self.assertEqual(exchange(7, some, list(some)), ([], []))

    def test_what_the_other_lacks(self):
        some = [(1, 0, 0, "a"), (3, 2, 1, None)]
        self.assertEqual(exchange(7, some, []), (some, []))
        self.assertEqual(exchange(7, [], some), ([], some))
        self.assertEqual(
            exchange(7, [(1, 0, 0, "a"), (5, 2, 1, None)], [(0, 0, 0, "b"), (3, 2, 1, "c"), (11, 4, 0, "")]),
            ([(1, 0, 0, "a"), (5, 2, 1, None)], [(0, 0, 0, "b"), (3, 2, 1, "c"), (11, 4, 0, "")]))

    def test_what_the_other_has_older(self):
        one = [(0, 0, 9, "a"), (1, 1, 0, "a"), (2, 4, 3, "b"), (3, 4, 3, "b"), (4, 4, 3, "b"), (5, 4, 3, "b")]
        other = [(0, 6, 0, "z"), (1, 2, 9, None), (2, 4, 0, "a"), (3, 4, 9, "c"), (4, 4, 4, "b"), (5, 4, 2, "b")]
        self.assertEqual(exchange(7, one, other), ([one[0], one[2], one[4]], [other[1], other[3], other[5]]))

    def test_where_neither_is_newer_nothing_goes(self):
        self.assertEqual(exchange(10, [(1, 0, 0, "a")], [(1, 5, 9, "b")]), ([], []))
        # Unlike words of one sum and age have one mark.
        self.assertEqual(exchange(10, [(1, 0, 0, "!!")], [(1, 0, 0, "# ")]), ([], []))

    def test_ages_beyond_any_life(self):
        self.assertEqual(exchange(7, [(1, 0, 1000, "a")], []), ([(1, 0, 1000, "a")], []))

    def test_against_the_document_s_words(self):
        chance = random.Random(1)
        for size in (3, 4, 7, 10, 10 ** 12):
            for _ in range(200):
                one = some_held(chance, min(size, 12), 4, range(6))
                other = some_held(chance, min(size, 12), 4, range(6))
                told = exchange(size, one, other)
                self.assertEqual(told, (plain_to(size, one, other), plain_to(size, other, one)))
                self.assertIs(type(told), tuple)

    def test_what_is_handed_in_stays_and_what_is_told_is_the_asker_s(self):
        one, other = [(1, 0, 0, "a"), (3, 2, 1, None)], [(2, 0, 0, "b")]
        before = copy.deepcopy((one, other))
        to_other, to_one = exchange(7, one, other)
        to_other.append(9)
        to_one.clear()
        self.assertEqual((one, other), before)
        self.assertEqual(exchange(7, one, other), before)

    def test_two_books_are_made_alike(self):
        chance = random.Random(2)
        for _ in range(200):
            # In order by numbers of each teller, and neither house among the tellers: room for all.
            one = some_held(chance, 4, 5, (1, 2, 3))
            other = some_held(chance, 4, 5, (1, 2, 3))
            to_other, to_one = exchange(7, one, other)
            marks = [mark(news) for news in after(MAKE, 0, one, to_one)]
            self.assertEqual(marks, [mark(news) for news in after(MAKE, 4, other, to_other)])
            self.assertEqual(exchange(7, after(MAKE, 0, one, to_one), after(MAKE, 4, other, to_other)), ([], []))


class After(unittest.TestCase):
    def test_nothing(self):
        self.assertEqual(after(MAKE, 0, [], []), [])
        held = [(1, 0, 0, "a"), (3, 2, 1, None)]
        self.assertEqual(after(MAKE, 0, held, []), held)
        self.assertEqual(after(MAKE, 0, [], held), held)

    def test_one_after_the_other(self):
        held = [(1, 2, 3, "b"), (4, 0, 0, None)]
        some = [(0, 0, 0, "own"), (1, 1, 0, "a"), (2, 0, 5, "ended"), (3, 0, 1, "x"), (4, 1, 1, "y"), (6, 0, 0, "full")]
        self.assertEqual(after(MAKE, 0, held, some), [(1, 2, 3, "b"), (3, 0, 1, "x"), (4, 1, 1, "y")])

    def test_the_order_of_what_is_taken_tells_what_is_dropped(self):
        held = [(3, 0, 0, "c"), (5, 0, 0, "e"), (7, 0, 0, "g")]
        some = [(1, 0, 0, "a"), (2, 0, 0, "b"), (5, 1, 0, "n")]
        self.assertEqual(after(MAKE, 0, held, some), [(1, 0, 0, "a"), (2, 0, 0, "b"), (3, 0, 0, "c")])
        self.assertEqual(after(MAKE, 0, held, some[::-1]), [(1, 0, 0, "a"), (2, 0, 0, "b"), (3, 0, 0, "c")])
        self.assertEqual(after(MAKE, 0, held, some[2:]), [(3, 0, 0, "c"), (5, 1, 0, "n"), (7, 0, 0, "g")])

    def test_against_a_book(self):
        chance = random.Random(3)
        for room, own in product((1, 2, 3, 6), (0, 3)):
            make = (7, 5, 2, room, 4)
            for _ in range(100):
                held = some_held(chance, 7, 5, [teller for teller in range(6) if teller != own])[:room]
                some = some_held(chance, 7, 7, range(6))
                book, plain = Book(make, own), PlainBook(make, own, held)
                for news in held + some:
                    book.take(news)
                for news in some:
                    plain.take(news)
                self.assertEqual(after(make, own, held, some), plain.held())
                self.assertEqual(after(make, own, held, some), book.held())

    def test_what_is_handed_in_stays_and_what_is_told_is_the_asker_s(self):
        held, some = [(3, 0, 0, "c")], [(3, 1, 0, "d")]
        for told in (after(MAKE, 0, held, some), after(MAKE, 0, held, []), after(MAKE, 0, [], some)):
            told.append(9)
        self.assertEqual((held, some), ([(3, 0, 0, "c")], [(3, 1, 0, "d")]))
        self.assertEqual(after(MAKE, 0, held, some), [(3, 1, 0, "d")])


if __name__ == "__main__":
    unittest.main()
