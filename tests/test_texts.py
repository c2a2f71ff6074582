"""Promise [15]: texts of news and of nets."""

import copy
import random
import re
import unittest

from roundnews.errors import BadRow, BadText, NewsError
from roundnews.nets import is_net
from roundnews.texts import net_from, net_text, news_from, news_text
from tests.chances import some_net

GREAT = 10 ** 12
SIGNS = [chr(code) for code in range(32, 127) if chr(code) != "%"]

NEWS = [
    ((3, 5, 7, "ab"), "3 5 7 2:ab"), ((0, 0, 0, ""), "0 0 0 0:"), ((11, 14, 1000, None), "11 14 1000 -"),
    ((3, 5, 7, "-"), "3 5 7 1:-"), ((3, 5, 7, ":"), "3 5 7 1::"), ((3, 5, 7, " "), "3 5 7 1: "),
    ((3, 5, 7, "a b  c "), "3 5 7 7:a b  c "), ((3, 5, 7, "2:ab"), "3 5 7 4:2:ab"),
    ((3, 5, 7, "~" * 30), "3 5 7 30:" + "~" * 30),
    ((10, 999999999999, 0, "0"), "10 999999999999 0 1:0"), ((1, 1, 0, "1 2 3 1:x"), "1 1 0 9:1 2 3 1:x"),
]


class NewsText(unittest.TestCase):
    def test_there_and_back(self):
        for news, text in NEWS:
            self.assertEqual(news_text(news), text)
            told = news_from(GREAT, text)
            self.assertEqual(told, news)
            self.assertIs(type(told), tuple)

    def test_every_sign(self):
        for sign in SIGNS:
            for words in (sign, sign * 30, "a" + sign, sign + " ", ":" + sign):
                news = (3, 5, 7, words)
                self.assertEqual(news_text(news), f"3 5 7 {len(words)}:{words}")
                self.assertEqual(news_from(15, news_text(news)), news)

    def test_by_chance(self):
        chance = random.Random(1)
        for _ in range(500):
            size = chance.choice([3, 15, GREAT])
            words = None
            if chance.randrange(8):
                words = "".join(chance.choice(SIGNS) for _ in range(chance.randrange(31)))
            news = (chance.randrange(12), chance.randrange(size), chance.randrange(1001), words)
            self.assertEqual(news_from(size, news_text(news)), news)


class NewsFrom(unittest.TestCase):
    def refused(self, text, size=15):
        with self.assertRaises(NewsError) as caught:
            news_from(size, text)
        self.assertIs(type(caught.exception), BadText, text)
        self.assertIsInstance(caught.exception, ValueError)

    def test_other_forms(self):
        for text in (
                "", " ", "-", ":", "3", "3 5", "3 5 7", "3 5 7 ", "3 5 7 2", "3 5 7 2ab", "3 5 7 :ab", "3 5 7 :",
                "3 5 7 0", "3 5 7 2 :ab", "3 5 7 2: ab", "3 5 7  2:ab", "3 5  7 2:ab", "3  5 7 2:ab", " 3 5 7 2:ab",
                "3 5 7 2:ab ", "3 5 7 -ab", "3 5 7 --", "3 5 7 - ", "3 5 7  -", "3 5 7 -:", "3 5 7 2-ab", "3,5,7,2:ab",
                "3\t5 7 2:ab", "3 5 7 2:ab\n", "\n3 5 7 2:ab", "3 5 7\n2:ab", "3 5 7 -\n", "3 5 7 3:ab\n", "3 5 7 2;ab",
                "teller 5 7 2:ab", "3 5 7 x:ab", "3 5 7 None", "(3, 5, 7, 'ab')", "3 5 7 9 2:ab"):
            self.refused(text)

    def test_signs_that_are_fewer_or_more(self):
        for text in ("3 5 7 1:ab", "3 5 7 3:ab", "3 5 7 0:ab", "3 5 7 1:", "3 5 7 20:ab", "3 5 7 2:ab:", "3 5 7 2: ab"):
            self.refused(text)

    def test_more_than_thirty_signs(self):
        for many in (31, 40, 200):
            self.refused(f"3 5 7 {many}:" + "a" * many)

    def test_signs_that_are_none_of_words(self):
        for sign in ("\n", "\t", "\r", "\x7f", "\x1f", "\x00", "\xe9", "\u20ac"):
            self.refused(f"3 5 7 1:{sign}")

    def test_numbers_with_noughts_ahead(self):
        for text in ("03 5 7 2:ab", "3 05 7 2:ab", "3 5 07 2:ab", "3 5 7 02:ab", "00 5 7 2:ab", "3 00 7 -", "3 5 00 -",
                     "3 5 7 00:"):
            self.refused(text)

    def test_numbers_with_signs(self):
        for number in ("+3", "-3", "-0", "+0", "3.", "3.0", "0x3", "3_0", "1e1", "", "three", "\u0663", "\xb2", "3,"):
            for text in (f"{number} 5 7 2:ab", f"3 {number} 7 2:ab", f"3 5 {number} 2:ab"):
                self.refused(text, GREAT)
        for number in ("+2", "-2", "2.", "0x2", "\u0662", "\xb2", "two", "2_"):
            self.refused(f"3 5 7 {number}:ab")

    def test_thirteen_figures(self):
        self.assertEqual(news_from(GREAT, "3 5 999999999999 -"), (3, 5, 10 ** 12 - 1, None))
        self.assertEqual(news_from(10 ** 15, "3 999999999999 0 -"), (3, 10 ** 12 - 1, 0, None))
        for text in ("3 1000000000000 7 -", "3 5 1000000000000 -", "1000000000000 5 7 -", "3 5 7 1000000000000:",
                     "3 0000000000005 7 -", "3 5 7 0000000000002:ab"):
            self.refused(text, 10 ** 15)

    def test_no_news_of_the_round(self):
        self.assertEqual(news_from(15, "3 14 7 -"), (3, 14, 7, None))
        self.refused("3 15 7 -", 15)
        self.refused("3 3 7 -", 3)
        self.assertEqual(news_from(15, "11 0 7 -"), (11, 0, 7, None))
        self.refused("12 0 7 -", 15)
        self.refused("999999999999 0 7 -", 15)

    def test_ages_beyond_life(self):
        for age in (400, 1000, 10 ** 6, 10 ** 12 - 1):
            self.assertEqual(news_from(15, f"3 5 {age} 2:ab"), (3, 5, age, "ab"))

    def test_against_a_pattern(self):
        number = "(0|[1-9][0-9]{0,11})"
        pattern = re.compile(f"{number} {number} {number} (-|{number}:([ -$&-~]{{0,30}}))")
        chance = random.Random(2)
        counts = {True: 0, False: 0}
        for _ in range(4000):
            text = list(chance.choice(NEWS)[1])
            for _ in range(chance.randrange(1, 3)):
                place = chance.randrange(len(text) + 1)
                text[place:place + chance.randrange(2)] = chance.choice(["", *" 0123:-a\n"])
            text = "".join(text)
            found = pattern.fullmatch(text)
            right = found is not None and int(found[1]) < 12 and int(found[2]) < 15 and (
                found[4] == "-" or int(found[5]) == len(found[6]))
            counts[right] += 1
            if right:
                words = None if found[4] == "-" else found[6]
                self.assertEqual(news_from(15, text), (int(found[1]), int(found[2]), int(found[3]), words))
            else:
                self.refused(text)
        self.assertGreater(min(counts.values()), 300)


class NetText(unittest.TestCase):
    def test_there_and_back(self):
        for net, text in (
                ((1, []), "houses 1"), ((12, []), "houses 12"), ((2, [(0, 1, 9)]), "houses 2\nstreet 0 1 9"),
                ((12, [(10, 11, 3), (0, 11, 1)]), "houses 12\nstreet 10 11 3\nstreet 0 11 1")):
            self.assertEqual(net_text(net), text)
            self.assertEqual(net_from(text), net)

    def test_by_chance(self):
        chance = random.Random(3)
        for _ in range(200):
            net = some_net(chance, chance.randrange(1, 13), 30, 9)
            told = net_from(net_text(net))
            self.assertEqual(told, net)
            self.assertIs(is_net(told), True)

    def test_of_any_size(self):
        net = (9999, [(0, 9998, 9999), (9997, 9998, 10)] + [(house, house + 1, 1) for house in range(60)])
        self.assertEqual(net_from(net_text(net)), net)
        self.assertEqual(net_text((10 ** 6, [(0, 12345, 10 ** 5)])), "houses 1000000\nstreet 0 12345 100000")

    def test_what_is_handed_in_stays_and_what_is_told_is_the_asker_s(self):
        net = (3, [(0, 1, 1)])
        before = copy.deepcopy(net)
        text = net_text(net)
        self.assertEqual(net, before)
        told = net_from(text)
        told[1].append((1, 2, 1))
        self.assertEqual(net_from(text), before)


class NetFrom(unittest.TestCase):
    def refused(self, row, text):
        with self.assertRaises(NewsError) as caught:
            net_from(text)
        self.assertIs(type(caught.exception), BadRow, text)
        self.assertEqual(caught.exception.row, row, text)

    def test_the_empty_text_is_one_empty_row(self):
        self.refused(0, "")
        self.refused(0, "\n")

    def test_the_first_row(self):
        for row in (
                "houses", "houses ", "houses 0", "houses 00", "houses 03", "houses -3", "houses +3", "houses  3",
                " houses 3", "houses 3 ", "houses 3 4", "house 3", "Houses 3", "houses3", "houses\t3", "houses 10000",
                "houses 3.", "houses x", "street 0 1 1", "3", " ", "houses \u0663", "houses 3\r", "houses -"):
            self.refused(0, row)
            self.refused(0, row + "\nstreet 0 1 1\nno row")

    def test_streets_that_aren_t_so_written(self):
        for row in (
                "", " ", "street", "street 0 1", "street 0 1 1 1", "street 0 1 1 ", " street 0 1 1", "street  0 1 1",
                "street 0  1 1", "street 0 1  1", "Street 0 1 1", "streets 0 1 1", "street 00 1 1", "street 0 01 1",
                "street 0 1 01", "street +0 1 1", "street -0 1 1", "street 0 +1 1", "street 0 1 +1", "street 0 1 10000",
                "street 0 1 x", "street 0,1,1", "houses 3", "0 1 1", "street 0 1 1\r", "street 0 1 00001",
                "street 0 \xb2 1"):
            self.refused(1, "houses 3\n" + row)
            self.refused(2, "houses 3\nstreet 1 2 5\n" + row)
            self.refused(2, "houses 3\nstreet 1 2 5\n" + row + "\nstreet 0 2 5\nno row\nstreet 1 2 5")

    def test_streets_that_can_t_be(self):
        for row in (
                "street 1 0 1", "street 0 0 1", "street 2 2 1", "street 0 3 1", "street 3 4 1", "street 0 1 0",
                "street 2 1 1", "street 1 2 6", "street 1 2 5", "street 9998 9999 1"):
            self.refused(2, "houses 3\nstreet 1 2 5\n" + row)
            self.refused(3, "houses 3\nstreet 1 2 5\nstreet 0 2 1\n" + row + "\n" + row)
        # Two between the same two: the later one is at fault.
        self.refused(3, "houses 3\nstreet 0 1 1\nstreet 1 2 1\nstreet 0 1 2")
        self.refused(1, "houses 1\nstreet 0 1 1")

    def test_a_line_feed_behind_the_last_row(self):
        self.refused(1, "houses 3\n")
        self.refused(2, "houses 3\nstreet 0 1 1\n")
        self.refused(1, "houses 3\n\nstreet 0 1 1")

    def test_four_figures(self):
        self.assertEqual(net_from("houses 9999\nstreet 0 9998 9999"), (9999, [(0, 9998, 9999)]))
        self.refused(1, "houses 9999\nstreet 0 1 10000")
        self.refused(0, "houses 10001\nstreet 0 10000 1")


if __name__ == "__main__":
    unittest.main()
