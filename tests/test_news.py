import unittest
from itertools import permutations, product

from roundnews.news import aged, is_news, is_words, mark_of, newer_mark, newest, sum_of
from tests.test_rounds import newer
from tests.things import deep, odd_things

SIGNS = "".join(chr(code) for code in range(32, 127) if code != 37)


def plain_sum(words):
    """The sum by its words, one sign after the other, with no table and no remainder sign."""
    if words is None:
        return 0
    scale = [chr(code) for code in range(32, 127)]
    left = sum((at + 1) * (scale.index(sign) + 1) for at, sign in enumerate(words))
    while left >= 9973:
        left -= 9973
    return 1 + left


def plain_newer(size, one, other):
    """newer_mark by its words."""
    if one[1] != other[1]:
        return newer(size, one[1], other[1])
    return one[2] > other[2] or (one[2] == other[2] and one[3] < other[3])


class Words(unittest.TestCase):
    def test_none_and_texts(self):
        for thing in (None, "", " ", "~", "a b", "None", SIGNS[:30], SIGNS[30:60], SIGNS[60:90], SIGNS[-30:]):
            self.assertIs(is_words(thing), True)

    def test_every_sign(self):
        for sign in SIGNS:
            self.assertIs(is_words(sign), True)
            self.assertIs(is_words("ab" + sign), True)

    def test_signs_that_words_do_not_hold(self):
        for sign in [chr(code) for code in range(32)] + [chr(127), chr(128), "\u00e4", "\u2014", "\ud800", "\U0001f600"]:
            self.assertIs(is_words(sign), False, repr(sign))
            self.assertIs(is_words("ab" + sign), False)
            self.assertIs(is_words(sign + "ab"), False)
        self.assertIs(is_words("a\nb"), False)
        self.assertIs(is_words("a\n"), False)
        self.assertIs(is_words("a\tb"), False)

    def test_the_percent_sign_is_none_of_them(self):
        self.assertIs(is_words("%"), False)
        self.assertIs(is_words("a%b"), False)

    def test_thirty_signs_and_one_more(self):
        self.assertIs(is_words("x" * 30), True)
        self.assertIs(is_words(" " * 30), True)
        self.assertIs(is_words("x" * 31), False)
        self.assertIs(is_words("x" * 200), False)

    def test_other_kinds(self):
        for thing in odd_things() + [[], ["a"], ("a",), deep(list, "a"), deep(tuple, "a")]:
            self.assertIs(is_words(thing), False, thing)


class News(unittest.TestCase):
    def test_news(self):
        for news in ((0, 0, 0, None), (11, 6, 0, ""), (3, 2, 999, "x"), (3, 2, 10 ** 12, " "), (0, 0, 0, "~" * 30)):
            self.assertIs(is_news(7, news), True, news)
        self.assertIs(is_news(10 ** 12, (0, 10 ** 12 - 1, 0, "a")), True)
        self.assertIs(is_news(3, (0, 2, 0, "a")), True)

    def test_parts_out_of_bounds(self):
        others = [
            (12, 0, 0, "a"), (-1, 0, 0, "a"), (0, 7, 0, "a"), (0, -1, 0, "a"), (0, 0, -1, "a"),
            (0, 0, 0, "x" * 31), (0, 0, 0, "a\nb"), (0, 0, 0, "\t"),
        ]
        for thing in others:
            self.assertIs(is_news(7, thing), False, thing)
        self.assertIs(is_news(10 ** 12, (0, 10 ** 12, 0, "a")), False)
        self.assertIs(is_news(3, (0, 3, 0, "a")), False)

    def test_parts_left_out_or_put_in(self):
        for thing in ((), (0,), (0, 0), (0, 0, 0), (0, 0, "a"), (0, 0, 0, "a", None), (0, 0, 0, 0, "a"), ((0, 0, 0, "a"),)):
            self.assertIs(is_news(7, thing), False, thing)

    def test_parts_of_other_kinds(self):
        strange = [None, True, False, "0", "", (), [], (0,), [0], deep(list, 0, 19), deep(tuple, 0, 19)]
        right = (0, 0, 0, "a")
        for place in range(3):
            for part in strange:
                self.assertIs(is_news(7, right[:place] + (part,) + right[place + 1:]), False, (place, part))
        for part in (0, 1, True, False, (), [], ("a",), ["a"], deep(list, "a", 19)):
            self.assertIs(is_news(7, (0, 0, 0, part)), False, part)

    def test_other_kinds(self):
        for thing in odd_things() + [None, "", "0000", [0, 0, 0, "a"], [0, 0, 0, None], deep(tuple, (0, 0, 0, "a"), 19)]:
            self.assertIs(is_news(7, thing), False, thing)


class Marks(unittest.TestCase):
    def test_sums(self):
        self.assertEqual(sum_of(None), 0)
        self.assertEqual(sum_of(""), 1)
        self.assertEqual(sum_of(" "), 2)
        self.assertEqual(sum_of("~"), 96)
        self.assertEqual(sum_of("$"), 6)
        self.assertEqual(sum_of("&"), 8)
        self.assertEqual(sum_of("ab"), 1 + 66 + 2 * 67)
        self.assertEqual(sum_of("ba"), 1 + 67 + 2 * 66)
        self.assertEqual(sum_of("  "), 4)

    def test_every_sign_and_place(self):
        for sign in SIGNS:
            for many in (1, 2, 3, 29, 30):
                self.assertEqual(sum_of(sign * many), plain_sum(sign * many))
        for at in range(len(SIGNS) - 29):
            self.assertEqual(sum_of(SIGNS[at:at + 30]), plain_sum(SIGNS[at:at + 30]))

    def test_sums_round_about_the_remainder(self):
        # The places to 14 come to 105, and 105 times 95 is 9,975: two above the remainder's turn.
        for sign in SIGNS:
            self.assertEqual(sum_of("~" * 13 + sign), plain_sum("~" * 13 + sign))
        self.assertEqual(sum_of("~" * 14), 1 + 9975 - 9973)
        self.assertEqual(sum_of("}" + "~" * 13), 1 + 9974 - 9973)
        self.assertEqual(sum_of("|" + "~" * 13), 1)
        self.assertEqual(sum_of("{" + "~" * 13), 9973)

    def test_mark_of(self):
        self.assertEqual(mark_of((3, 5, 7, "ab")), (3, 5, 201, 7))
        self.assertEqual(mark_of((0, 10 ** 12 - 1, 0, None)), (0, 10 ** 12 - 1, 0, 0))
        self.assertEqual(mark_of((11, 0, 1000, "")), (11, 0, 1, 1000))
        self.assertIs(type(mark_of((3, 5, 7, "ab"))), tuple)

    def test_newer_mark(self):
        for size in (3, 4, 5, 6):
            marks = [(2, number, total, age) for number in range(size) for total in (0, 1, 2) for age in (0, 1, 2)]
            for one, other in product(marks, repeat=2):
                self.assertIs(newer_mark(size, one, other), plain_newer(size, one, other), (size, one, other))

    def test_number_goes_ahead_of_sum_and_sum_of_age(self):
        self.assertIs(newer_mark(10, (0, 1, 0, 9), (0, 0, 9000, 0)), True)
        self.assertIs(newer_mark(10, (0, 0, 9000, 0), (0, 1, 0, 9)), False)
        self.assertIs(newer_mark(10, (0, 0, 5, 0), (0, 9, 7, 0)), True)
        self.assertIs(newer_mark(10, (0, 1, 2, 900), (0, 1, 1, 0)), True)
        self.assertIs(newer_mark(10, (0, 1, 1, 0), (0, 1, 2, 900)), False)
        self.assertIs(newer_mark(10, (0, 1, 2, 3), (0, 1, 2, 4)), True)
        self.assertIs(newer_mark(10, (0, 1, 2, 4), (0, 1, 2, 3)), False)
        self.assertIs(newer_mark(10, (0, 1, 2, 3), (0, 1, 2, 3)), False)
        # Half an even round apart neither is newer, whatever sum and age are.
        self.assertIs(newer_mark(10, (0, 5, 9, 0), (0, 0, 1, 9)), False)
        self.assertIs(newer_mark(10, (0, 0, 9, 0), (0, 5, 1, 9)), False)
        self.assertIs(newer_mark(10 ** 12, (0, 0, 0, 0), (0, 10 ** 12 - 1, 0, 0)), True)


class Newest(unittest.TestCase):
    def test_one_and_several(self):
        self.assertEqual(newest(10, [(1, 4, 2, "a")]), (1, 4, 2, "a"))
        self.assertEqual(newest(10, [(1, 9, 5, "a"), (1, 1, 0, "b"), (1, 0, 2, "c")]), (1, 1, 0, "b"))
        self.assertEqual(newest(10, [(1, 1, 0, "a"), (1, 1, 0, "b"), (1, 1, 0, None)]), (1, 1, 0, "b"))
        self.assertEqual(newest(10, [(1, 1, 3, "a"), (1, 1, 2, "a"), (1, 1, 4, "a")]), (1, 1, 2, "a"))
        self.assertEqual(newest(10, [(1, 1, 3, None), (1, 1, 3, "")]), (1, 1, 3, ""))

    def test_all_small_lists(self):
        for size in (3, 4, 5):
            some = [(0, number, 0, words) for number in range(size) for words in (None, "a")]
            for news in product(some, repeat=3):
                marks = [mark_of(one) for one in news]
                best = [at for at in range(3) if not any(plain_newer(size, mark, marks[at]) for mark in marks)]
                right = news[best[0]] if best else None
                self.assertEqual(newest(size, list(news)), right, (size, news))

    def test_the_first_in_the_list_goes(self):
        # Half an even round apart neither is newer.
        for row in permutations([(1, 0, 0, "a"), (1, 5, 0, "b")]):
            self.assertEqual(newest(10, list(row)), row[0])
        # Unlike words of one sum, and of one age, have one mark.
        self.assertEqual(sum_of("# "), sum_of("!!"))
        for row in permutations([(1, 3, 2, "!!"), (1, 3, 2, "# ")]):
            self.assertEqual(newest(10, list(row)), row[0])
        self.assertEqual(newest(10, [(1, 3, 2, "!!"), (1, 3, 2, "$ ")]), (1, 3, 2, "$ "))

    def test_none_where_they_go_round(self):
        self.assertIsNone(newest(3, [(1, 0, 0, "a"), (1, 1, 0, "b"), (1, 2, 0, "c")]))
        self.assertIsNone(newest(10 ** 12, [(1, k * 333333333333, 0, "a") for k in range(3)]))
        self.assertIsNone(newest(7, [(1, k, 0, "a") for k in (0, 2, 4, 5)]))

    def test_forty_of_a_great_round(self):
        size = 10 ** 12
        some = [(5, (size - 20 + 7 * step) % size, step, "w" * (step % 31)) for step in range(40)]
        self.assertEqual(newest(size, some), some[-1])
        self.assertEqual(newest(size, some[::-1]), some[-1])
        self.assertEqual(newest(size, some[20:] + some[:20]), some[-1])

    def test_nothing_handed_in_is_changed(self):
        some = [(1, 9, 5, "a"), (1, 1, 0, "b")]
        newest(10, some)
        self.assertEqual(some, [(1, 9, 5, "a"), (1, 1, 0, "b")])
        some[1] = (1, 0, 0, "c")
        self.assertEqual(newest(10, some), (1, 0, 0, "c"))


class Ages(unittest.TestCase):
    def test_below_at_and_beyond_life(self):
        self.assertEqual(aged(10, (1, 4, 2, "a"), 7), (1, 4, 9, "a"))
        self.assertIsNone(aged(10, (1, 4, 2, "a"), 8))
        self.assertIsNone(aged(10, (1, 4, 2, "a"), 9))
        self.assertEqual(aged(10, (1, 4, 9, None), 0), (1, 4, 9, None))
        self.assertIsNone(aged(10, (1, 4, 10, "a"), 0))
        self.assertIsNone(aged(10, (1, 4, 11, "a"), 0))
        self.assertEqual(aged(1, (1, 4, 0, ""), 0), (1, 4, 0, ""))
        self.assertIsNone(aged(1, (1, 4, 0, ""), 1))
        self.assertEqual(aged(1000, (1, 4, 0, ""), 999), (1, 4, 999, ""))
        self.assertIsNone(aged(1000, (1, 4, 0, ""), 10 ** 12))

    def test_all_small_ages(self):
        for life, age, many in product(range(1, 6), range(8), range(8)):
            right = (3, 2, age + many, "x") if age + many < life else None
            self.assertEqual(aged(life, (3, 2, age, "x"), many), right)
        self.assertIs(type(aged(5, (3, 2, 0, "x"), 1)), tuple)


if __name__ == "__main__":
    unittest.main()
