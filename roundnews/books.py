"""Books: what a house holds of others' news, one of each teller and never more than room."""

from roundnews.news import aged, alive_marks, lacked, mark_of, newer_mark


class Book:
    """The book of the house own."""

    def __init__(self, make, own):
        self.make = make
        self.house = own
        self.size, self.life, _, self.room, _ = make
        self.by_teller = {}

    def take(self, news):
        """Take the news in, or leave it; tell the pair (word, gone)."""
        word = self._word_for(mark_of(news))
        if not is_taken(word):
            return (word, None)
        self.by_teller[news[0]] = news
        return (word, self._drop_beyond_room())

    def tick(self, many):
        """Let so many ticks pass; tell the tellers whose news has ended, in the order of ticks, of one tick rising."""
        ended = []
        for _ in range(many):
            ended.extend(self._pass_tick())
        return ended

    def held(self):
        """Tell the list of all news held, by rising tellers."""
        return [self.by_teller[teller] for teller in sorted(self.by_teller)]

    def news_of(self, teller):
        """Tell the news held of this teller, or None."""
        return self.by_teller.get(teller)

    def marks(self):
        """Tell the tuple of the marks of all news held, by rising tellers."""
        return tuple([mark_of(news) for news in self.held()])

    def better(self, marks):
        """Tell the news held that a house of these marks lacks or has older."""
        return lacked(self.size, self.held(), alive_marks(self.life, marks))

    def wanted(self, marks):
        """Tell the rising tellers of those marks whose news, each by itself, would be taken in."""
        return sorted({mark[0] for mark in marks if is_taken(self._word_for(mark))})

    def twin(self):
        """Tell a book of its own that holds the same."""
        twin = Book(self.make, self.house)
        twin.by_teller = dict(self.by_teller)
        return twin

    def _word_for(self, mark):
        """Tell the word that take tells of a news of this mark."""
        teller, _, _, age = mark
        if teller == self.house:
            return "own"
        if age >= self.life:
            return "ended"
        if teller in self.by_teller:
            return self._word_beside(mark, mark_of(self.by_teller[teller]))
        if len(self.by_teller) == self.room and max(self.by_teller) < teller:
            return "full"
        return "new"

    def _word_beside(self, mark, other):
        """Tell the word of a mark where the news held of its teller is of the other one."""
        if mark == other:
            return "same"
        if newer_mark(self.size, mark, other):
            return "newer"
        return "older"

    def _drop_beyond_room(self):
        """Hold the greatest teller's news no more where there's one too many; tell that teller, else None."""
        if len(self.by_teller) <= self.room:
            return None
        gone = max(self.by_teller)
        del self.by_teller[gone]
        return gone

    def _pass_tick(self):
        """Let one tick pass; tell the rising list of the tellers whose news has ended."""
        left, ended = {}, []
        for news in self.held():
            older = aged(self.life, news, 1)
            if older is None:
                ended.append(news[0])
            else:
                left[news[0]] = older
        self.by_teller = left
        return ended


def is_taken(word):
    """Tell whether a book that tells this word holds the news now."""
    return word in ("newer", "new")
