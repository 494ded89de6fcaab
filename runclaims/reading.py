"""A reader that goes along the pieces of a text."""

from runclaims.errors import BadText
from runclaims.plain import is_name


class Reader:
    """Stands ahead of a piece; raises BadText at the first piece that can't stand there."""

    def __init__(self, row):
        self.row = row
        self.at = 0

    def now(self):
        """The piece ahead of which it stands; "" behind the last one."""
        if self.at < len(self.row):
            return self.row[self.at]
        return ""

    def step(self):
        """Go on behind this piece, and tell which one it was."""
        piece = self.now()
        self.at += 1
        return piece

    def want(self, word):
        """Go on behind this word."""
        if self.now() != word:
            raise BadText(self.at)
        return self.step()

    def read_name(self):
        """Go on behind a NAME, and tell it."""
        if not is_name(self.now()):
            raise BadText(self.at)
        return self.step()

    def read_digit(self, low, high):
        """Go on behind a digit from low to high, and tell the number."""
        piece = self.now()
        if len(piece) != 1 or not str(low) <= piece <= str(high):
            raise BadText(self.at)
        return int(self.step())

    def finish(self):
        """Nothing may come any more."""
        if self.at < len(self.row):
            raise BadText(self.at)
