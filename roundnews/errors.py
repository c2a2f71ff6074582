"""The refusals of the package, each straight under NewsError."""


class NewsError(ValueError):
    """What is asked for is refused."""


class NoHouse(NewsError):
    """There is no house of that number."""


class NoStreet(NewsError):
    """There is no street of that number."""


class BadText(NewsError):
    """A text isn't written as a news' text is."""


class BadRow(NewsError):
    """A row of a text isn't written so, or can't stand there; row is its number, from 0."""

    def __init__(self, row):
        super().__init__(f"row {row} can't stand there")
        self.row = row
