import unittest

from roundnews.errors import BadRow, BadText, NewsError, NoHouse, NoStreet


class Errors(unittest.TestCase):
    def test_news_error_stands_straight_under_value_error(self):
        self.assertEqual(NewsError.__bases__, (ValueError,))

    def test_each_refusal_stands_straight_under_news_error(self):
        for kind in (NoHouse, NoStreet, BadText, BadRow):
            self.assertEqual(kind.__bases__, (NewsError,))

    def test_made_with_words(self):
        for kind in (NoHouse, NoStreet, BadText):
            self.assertEqual(str(kind("there is none")), "there is none")
            with self.assertRaises(kind) as caught:
                raise kind("there is none")
            self.assertIsInstance(caught.exception, ValueError)

    def test_row_of_a_bad_row(self):
        for row in (0, 7, 300):
            self.assertEqual(BadRow(row).row, row)
            self.assertIsInstance(str(BadRow(row)), str)
        with self.assertRaises(NewsError) as caught:
            raise BadRow(4)
        self.assertEqual(caught.exception.row, 4)
        self.assertEqual((BadRow(1).row, BadRow(2).row), (1, 2))

    def test_none_catches_another_one(self):
        made = [NoHouse("a"), NoStreet("a"), BadText("a"), BadRow(0)]
        for one in made:
            for other in made:
                self.assertEqual(isinstance(one, other.__class__), one is other)


if __name__ == "__main__":
    unittest.main()
