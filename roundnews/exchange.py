"""How what two books hold is made alike."""

from roundnews.books import Book
from roundnews.news import lacked, mark_of


def exchange(size, one, other):
    """Tell the pair (to_other, to_one): the news that the one has and the other lacks or has older, and in return."""
    to_other = lacked(size, one, [mark_of(news) for news in other])
    to_one = lacked(size, other, [mark_of(news) for news in one])
    return (to_other, to_one)


def after(make, own, held, some):
    """Tell what a book of own that holds the list held holds when some has been taken, one after the other."""
    book = Book(make, own)
    for news in held + some:
        book.take(news)
    return book.held()
