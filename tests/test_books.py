import copy
import random
import unittest
from itertools import permutations, product

from roundnews.books import Book
from roundnews.news import mark_of, newer_mark, newest, sum_of
from tests.plain import PlainBook, mark

# A round of 7 with three alive at once isn't safe; what a Book does doesn't ask for that.
MAKE = (7, 5, 2, 2, 4)
WIDE = (20, 10, 3, 12, 4)


def book_of(make, own, some):
    book = Book(make, own)
    for news in some:
        book.take(news)
    return book


def any_news(chance, make, tellers=6):
    size, life = make[:2]
    words = chance.choice([None, "", "a", "b", "!!", "# "])
    return (chance.randrange(tellers), chance.randrange(size), chance.randrange(life + 2), words)


class Take(unittest.TestCase):
    def check(self, make, own, held, news, told, then):
        book = book_of(make, own, held)
        self.assertEqual(book.held(), held)
        answer = book.take(news)
        self.assertEqual(answer, told)
        self.assertIs(type(answer), tuple)
        self.assertEqual(book.held(), then)

    def test_own(self):
        for news in ((3, 0, 0, "a"), (3, 0, 0, None), (3, 6, 4, "a")):
            self.check(MAKE, 3, [], news, ("own", None), [])
            self.check(MAKE, 3, [(1, 0, 0, "b"), (5, 0, 0, "b")], news, ("own", None), [(1, 0, 0, "b"), (5, 0, 0, "b")])

    def test_own_goes_ahead_of_ended_and_of_full(self):
        self.check(MAKE, 3, [], (3, 0, 5, "a"), ("own", None), [])
        held = [(0, 0, 0, "a"), (1, 0, 0, "a")]
        self.check(MAKE, 3, held, (3, 0, 0, "a"), ("own", None), held)

    def test_ended(self):
        for age in (5, 6, 1000):
            self.check(MAKE, 3, [], (1, 0, age, "a"), ("ended", None), [])
        self.check(MAKE, 3, [], (1, 0, 4, "a"), ("new", None), [(1, 0, 4, "a")])

    def test_ended_goes_ahead_of_same_older_newer_and_full(self):
        held = [(1, 2, 4, "a"), (2, 0, 0, "a")]
        for news in ((1, 2, 5, "a"), (1, 1, 5, "a"), (1, 3, 5, "a"), (1, 2, 5, "b"), (4, 0, 5, "a"), (0, 0, 5, "a")):
            self.check(MAKE, 3, held, news, ("ended", None), held)

    def test_same(self):
        held = [(1, 2, 3, "a")]
        self.check(MAKE, 3, held, (1, 2, 3, "a"), ("same", None), held)
        self.check(MAKE, 3, [(1, 2, 3, None)], (1, 2, 3, None), ("same", None), [(1, 2, 3, None)])

    def test_same_mark_of_unlike_words_leaves_the_one_held(self):
        self.assertEqual(sum_of("# "), sum_of("!!"))
        self.check(MAKE, 3, [(1, 2, 3, "!!")], (1, 2, 3, "# "), ("same", None), [(1, 2, 3, "!!")])

    def test_older(self):
        held = [(1, 2, 3, "b")]
        # By number; neither newer, as far as half an even round; by sum; by age.
        for number in (1, 0, 6):
            self.check(MAKE, 3, held, (1, number, 0, "~"), ("older", None), held)
        far = (10, 5, 2, 2, 4)
        self.check(far, 3, [(1, 2, 3, "b")], (1, 7, 0, "~"), ("older", None), [(1, 2, 3, "b")])
        self.check(MAKE, 3, held, (1, 2, 0, "a"), ("older", None), held)
        self.check(MAKE, 3, held, (1, 2, 0, None), ("older", None), held)
        self.check(MAKE, 3, held, (1, 2, 4, "b"), ("older", None), held)

    def test_newer(self):
        for news in ((1, 3, 4, None), (1, 4, 0, "a"), (1, 5, 0, "a"), (1, 2, 4, "c"), (1, 2, 2, "b"), (1, 2, 0, "b")):
            self.check(MAKE, 3, [(1, 2, 3, "b")], news, ("newer", None), [news])
        self.check(MAKE, 3, [(1, 6, 0, "b")], (1, 0, 0, "a"), ("newer", None), [(1, 0, 0, "a")])

    def test_newer_and_older_where_room_is_full(self):
        held = [(1, 2, 0, "a"), (4, 2, 0, "a")]
        self.check(MAKE, 3, held, (4, 3, 0, "a"), ("newer", None), [(1, 2, 0, "a"), (4, 3, 0, "a")])
        self.check(MAKE, 3, held, (4, 1, 0, "a"), ("older", None), held)
        self.check(MAKE, 3, held, (4, 2, 0, "a"), ("same", None), held)

    def test_full(self):
        held = [(1, 2, 0, "a"), (4, 2, 0, "a")]
        for teller in (5, 6, 11):
            self.check(MAKE, 3, held, (teller, 0, 0, "a"), ("full", None), held)

    def test_new(self):
        self.check(MAKE, 3, [], (1, 2, 0, None), ("new", None), [(1, 2, 0, None)])
        self.check(MAKE, 3, [(4, 2, 0, "a")], (1, 6, 4, ""), ("new", None), [(1, 6, 4, ""), (4, 2, 0, "a")])
        self.check(MAKE, 3, [(4, 2, 0, "a")], (5, 6, 4, ""), ("new", None), [(4, 2, 0, "a"), (5, 6, 4, "")])

    def test_new_with_a_teller_gone(self):
        held = [(1, 2, 0, "a"), (4, 2, 0, "a")]
        self.check(MAKE, 3, held, (0, 2, 1, "x"), ("new", 4), [(0, 2, 1, "x"), (1, 2, 0, "a")])
        self.check(MAKE, 3, held, (2, 2, 1, "x"), ("new", 4), [(1, 2, 0, "a"), (2, 2, 1, "x")])
        one = (7, 5, 2, 1, 4)
        self.check(one, 3, [(4, 2, 0, "a")], (0, 0, 0, "x"), ("new", 4), [(0, 0, 0, "x")])

    def test_the_one_taken_would_be_the_one_gone(self):
        one = (7, 5, 2, 1, 4)
        self.check(one, 3, [(4, 2, 0, "a")], (5, 0, 0, "x"), ("full", None), [(4, 2, 0, "a")])

    def test_one_that_is_gone_is_taken_again(self):
        book = book_of(MAKE, 3, [(1, 2, 0, "a"), (4, 2, 0, "a")])
        self.assertEqual(book.take((0, 2, 1, "x")), ("new", 4))
        self.assertEqual(book.take((4, 2, 0, "a")), ("full", None))
        self.assertEqual(book.take((4, 3, 0, "a")), ("full", None))
        book.take((1, 2, 0, "a"))
        self.assertEqual(book.tick(4), [0])
        # What was dropped is forgotten, so an older one is new now.
        self.assertEqual(book.take((4, 1, 0, "a")), ("new", None))
        self.assertEqual(book.held(), [(1, 2, 4, "a"), (4, 1, 0, "a")])

    def test_the_greatest_room(self):
        make = (7, 5, 2, 12, 4)
        book = book_of(make, 3, [(teller, 0, 0, "a") for teller in range(12)])
        self.assertEqual([news[0] for news in book.held()], [0, 1, 2, 4, 5, 6, 7, 8, 9, 10, 11])


class Tick(unittest.TestCase):
    def test_none(self):
        book = book_of(WIDE, 0, [(1, 0, 9, "a")])
        self.assertEqual(book.tick(0), [])
        self.assertEqual(book.held(), [(1, 0, 9, "a")])

    def test_one(self):
        book = book_of(WIDE, 0, [(1, 0, 8, "a"), (2, 5, 0, None)])
        self.assertEqual(book.tick(1), [])
        self.assertEqual(book.held(), [(1, 0, 9, "a"), (2, 5, 1, None)])
        self.assertEqual(book.tick(1), [1])
        self.assertEqual(book.held(), [(2, 5, 2, None)])

    def test_many(self):
        some = [(1, 0, 7, "a"), (2, 0, 9, "a"), (3, 0, 0, "a"), (4, 0, 9, "a"), (5, 0, 7, "a"), (6, 0, 8, "a")]
        book = book_of(WIDE, 0, some)
        twin = book.twin()
        self.assertEqual(book.tick(9), [2, 4, 6, 1, 5])
        self.assertEqual(book.held(), [(3, 0, 9, "a")])
        self.assertEqual([twin.tick(1) for _ in range(10)], [[2, 4], [6], [1, 5], [], [], [], [], [], [], [3]])

    def test_beyond_all_lives(self):
        book = book_of(WIDE, 0, [(2, 0, 0, "a"), (1, 0, 0, "a")])
        self.assertEqual(book.tick(500), [1, 2])
        self.assertEqual(book.held(), [])
        self.assertEqual(book.tick(500), [])

    def test_a_life_of_one(self):
        book = book_of((3, 1, 1, 2, 1), 0, [(1, 0, 0, "a")])
        self.assertEqual(book.take((1, 1, 1, "a")), ("ended", None))
        self.assertEqual(book.tick(1), [1])

    def test_what_has_ended_does_not_come_back(self):
        book = book_of(WIDE, 0, [(1, 3, 0, "a")])
        self.assertEqual(book.tick(10), [1])
        self.assertEqual(book.take((1, 3, 10, "a")), ("ended", None))
        self.assertEqual(book.take((1, 2, 13, "a")), ("ended", None))
        self.assertEqual((book.held(), book.marks(), book.news_of(1)), ([], (), None))


class Told(unittest.TestCase):
    def setUp(self):
        self.some = [(1, 2, 9, "ab"), (4, 0, 0, None), (6, 19, 3, "")]
        self.book = book_of(WIDE, 3, [self.some[2], self.some[0], self.some[1]])

    def test_held_and_news_of(self):
        self.assertEqual(self.book.held(), self.some)
        self.assertEqual(self.book.news_of(4), (4, 0, 0, None))
        self.assertEqual(self.book.news_of(6), (6, 19, 3, ""))
        for teller in (0, 2, 3, 5, 11):
            self.assertIsNone(self.book.news_of(teller))

    def test_marks(self):
        self.assertEqual(self.book.marks(), ((1, 2, 201, 9), (4, 0, 0, 0), (6, 19, 1, 3)))
        self.assertIs(type(self.book.marks()), tuple)

    def test_an_empty_book(self):
        book = Book(WIDE, 3)
        self.assertEqual((book.held(), book.marks(), book.better(()), book.wanted(())), ([], (), [], []))
        self.assertEqual(book.tick(3), [])
        self.assertIsNone(book.news_of(1))

    def test_lists_are_the_asker_s_own(self):
        marks = self.book.marks()
        for ask in (self.book.held, lambda: self.book.better(()), lambda: self.book.wanted(((7, 0, 1, 0),))):
            told = ask()
            again = copy.deepcopy(told)
            self.assertIsNot(told, ask())
            told.clear()
            self.assertEqual(ask(), again)
        self.assertEqual(self.book.marks(), marks)
        ended = self.book.tick(1)
        ended.append(99)
        self.assertEqual(self.book.tick(1), [])

    def test_asking_changes_nothing(self):
        self.book.marks(), self.book.better(()), self.book.twin()
        self.book.wanted(((1, 3, 5, 0), (0, 0, 1, 0), (4, 1, 1, 0), (9, 0, 0, 0)))
        self.assertEqual(self.book.held(), self.some)


class Better(unittest.TestCase):
    def setUp(self):
        self.some = [(1, 2, 9, "ab"), (4, 0, 0, None), (6, 19, 3, "")]
        self.book = book_of(WIDE, 3, self.some)

    def test_no_marks(self):
        self.assertEqual(self.book.better(()), self.some)

    def test_its_own_marks(self):
        self.assertEqual(self.book.better(self.book.marks()), [])

    def test_marks_that_are_older_and_newer(self):
        one, four, six = self.some
        for marks, told in (
            (((1, 1, 999, 0), (4, 1, 0, 0), (6, 18, 9, 0)), [one, six]),
            (((1, 2, 200, 0), (4, 0, 1, 9), (6, 19, 1, 4)), [one, six]),
            (((1, 2, 201, 8), (4, 19, 1, 9), (6, 0, 0, 9)), [four]),
            (((6, 19, 0, 0),), [one, four, six]),
            (((6, 19, 1, 2), (0, 0, 1, 0), (1, 3, 0, 0)), [four]),
        ):
            self.assertEqual(self.book.better(marks), told, marks)

    def test_marks_at_life_and_beyond_are_as_none(self):
        one, four, six = self.some
        for age in (10, 11, 1000):
            self.assertEqual(self.book.better(((1, 3, 5, age), (4, 1, 1, age), (6, 0, 1, age))), self.some)
            self.assertEqual(self.book.better(((1, 2, 201, age), (4, 1, 1, 9), (6, 0, 1, 9))), [one])
        self.assertEqual(self.book.better(((1, 3, 5, 9), (4, 1, 1, 9), (6, 0, 1, 9))), [])

    def test_where_neither_is_newer_it_is_not_better(self):
        self.assertEqual(self.book.better(((1, 12, 1, 9), (4, 10, 1, 9), (6, 9, 1, 9))), [])

    def test_marks_of_its_own_house_and_of_others(self):
        self.assertEqual(self.book.better(((3, 5, 5, 0), (9, 5, 5, 0))), self.some)


class Wanted(unittest.TestCase):
    def setUp(self):
        self.book = book_of(MAKE, 3, [(1, 2, 3, "b"), (4, 0, 0, None)])

    def test_none_where_take_would_take_none(self):
        for one in (
            (3, 0, 1, 0), (1, 2, 68, 3), (1, 1, 9, 0), (1, 6, 9, 0), (1, 2, 3, 0), (1, 2, 68, 4), (4, 0, 0, 0),
            (5, 0, 1, 0),
        ):
            self.assertEqual(self.book.wanted((one,)), [], one)

    def test_newer_and_new(self):
        for one in ((1, 3, 0, 4), (1, 5, 0, 0), (1, 2, 69, 4), (1, 2, 68, 2), (4, 0, 1, 4), (0, 0, 0, 0), (2, 6, 1, 4)):
            self.assertEqual(self.book.wanted((one,)), [one[0]], one)

    def test_at_life_and_beyond(self):
        for age in (5, 6, 1000):
            self.assertEqual(self.book.wanted(((0, 0, 1, age), (1, 3, 1, age), (4, 1, 1, age))), [])
        self.assertEqual(self.book.wanted(((0, 0, 1, 4), (1, 3, 1, 4), (4, 1, 1, 5))), [0, 1])

    def test_each_by_itself(self):
        # Of these one alone would find room for itself, but each is looked at as if it were the only one.
        book = book_of((7, 5, 2, 1, 4), 3, [(6, 0, 0, "a")])
        marks = ((0, 0, 1, 0), (1, 0, 1, 0), (5, 0, 1, 0), (6, 1, 0, 0), (7, 0, 1, 0))
        self.assertEqual(book.wanted(marks), [0, 1, 5, 6])

    def test_they_rise(self):
        book = book_of(WIDE, 3, [(4, 0, 0, "a")])
        self.assertEqual(book.wanted(((9, 0, 1, 0), (4, 1, 1, 0), (0, 0, 1, 0))), [0, 4, 9])


class Twin(unittest.TestCase):
    def test_the_same(self):
        some = [(1, 2, 3, "b"), (4, 0, 0, None)]
        twin = book_of(MAKE, 3, some).twin()
        self.assertIs(type(twin), Book)
        self.assertEqual(twin.held(), some)
        self.assertEqual(twin.take((3, 0, 0, "a")), ("own", None))
        self.assertEqual(twin.take((5, 0, 0, "a")), ("full", None))
        self.assertEqual(twin.take((2, 0, 0, "a")), ("new", 4))

    def test_apart_from_its_book(self):
        some = [(1, 2, 3, "b"), (4, 0, 0, None)]
        book = book_of(MAKE, 3, some)
        twin = book.twin()
        self.assertIsNot(twin, book)
        book.take((0, 0, 0, "a"))
        book.tick(1)
        self.assertEqual(twin.held(), some)
        twin.take((1, 3, 0, "c"))
        twin.tick(3)
        self.assertEqual(book.held(), [(0, 0, 1, "a"), (1, 2, 4, "b")])
        self.assertEqual(twin.held(), [(1, 3, 3, "c"), (4, 0, 3, None)])

    def test_a_twin_of_a_twin(self):
        book = Book(MAKE, 3)
        twin = book.twin().twin()
        twin.take((1, 2, 3, "b"))
        self.assertEqual((book.held(), twin.held()), ([], [(1, 2, 3, "b")]))


class AgainstPlain(unittest.TestCase):
    def check(self, chance, make, own):
        book, plain = Book(make, own), PlainBook(make, own)
        for _ in range(60):
            news = any_news(chance, make)
            some = {one[0]: one for one in [any_news(chance, make) for _ in range(4)]}
            marks = tuple(mark(one) for one in some.values())
            self.assertEqual(book.better(marks), plain.better(marks), (make, plain.rows, marks))
            self.assertEqual(book.wanted(marks), plain.wanted(list(some.values())), (make, plain.rows, marks))
            before = list(plain.rows)
            self.assertEqual(book.take(news), plain.take(news), (make, before, news))
            if chance.randrange(3) == 0:
                many = chance.choice([0, 1, 1, 2, 3])
                self.assertEqual(book.tick(many), plain.tick(many))
            self.assertEqual(book.held(), plain.held())
            self.assertEqual(book.marks(), tuple(mark(one) for one in plain.held()))
            self.assertEqual([book.news_of(teller) for teller in range(7)], [plain.of(teller) for teller in range(7)])
            self.assertLessEqual(len(book.held()), make[3])

    def test_runs_of_all_kinds(self):
        chance = random.Random(7)
        for size, life, room in product((3, 4, 5, 8), (1, 2, 4, 9), (1, 2, 3, 6)):
            for own in (0, 2, 5):
                self.check(chance, (size, life, 2, room, 3), own)


class InAnyOrder(unittest.TestCase):
    """Promise [8]."""

    def check(self, make, own, rows):
        tellers = sorted({news[0] for row in rows for news in row} - {own})
        for row in rows:
            best = [newest(make[0], [news for news in row if news[0] == teller]) for teller in tellers]
            self.assertEqual(book_of(make, own, row).held(), best, row)

    def test_all_orders(self):
        make = (7, 9, 2, 2, 3)
        some = [(1, 6, 3, "a"), (1, 0, 1, "b"), (1, 1, 2, "c"), (4, 3, 0, None), (4, 5, 8, "x"), (4, 5, 8, None)]
        self.check(make, 0, list(permutations(some)))

    def test_all_orders_of_one_number(self):
        make = (3, 9, 2, 2, 3)
        some = [(1, 2, 3, "a"), (1, 2, 5, "b"), (1, 2, 2, "b"), (1, 2, 0, None), (1, 1, 0, "~"), (2, 0, 0, "")]
        self.check(make, 0, list(permutations(some)))
        self.assertEqual(book_of(make, 0, some).held(), [(1, 2, 2, "b"), (2, 0, 0, "")])

    def test_some_twice(self):
        make = (7, 9, 2, 2, 3)
        some = [(1, 6, 3, "a"), (1, 0, 1, "b"), (4, 3, 0, None), (4, 5, 8, "x")]
        chance = random.Random(8)
        rows = []
        for _ in range(300):
            row = some + [chance.choice(some) for _ in range(6)]
            chance.shuffle(row)
            rows.append(row)
        self.check(make, 0, rows)
        for row in rows:
            self.assertEqual(book_of(make, 0, row).held(), [(1, 0, 1, "b"), (4, 5, 8, "x")])

    def test_room_for_eleven_tellers_and_a_great_round(self):
        size = 10 ** 12
        chance = random.Random(9)
        some = [(teller, (size - 2 + step) % size, step, "w" * step) for teller in range(12) for step in range(4)]
        for room in (11, 12):
            for _ in range(20):
                chance.shuffle(some)
                held = book_of((size, 400, 1, room, 1), 6, some).held()
                self.assertEqual(held, [(teller, 1, 3, "www") for teller in range(12) if teller != 6])

    def test_the_newest_is_the_one_than_which_none_is_newer(self):
        some = [(2, number, number, "a") for number in (5, 6, 0, 1)]
        held = book_of((7, 9, 2, 1, 3), 0, some).held()
        self.assertEqual(held, [(2, 1, 1, "a")])
        self.assertFalse(any(newer_mark(7, mark_of(news), mark_of(held[0])) for news in some))


if __name__ == "__main__":
    unittest.main()
