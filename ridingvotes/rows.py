"""The rows of a text, gone through from row 0."""

from ridingvotes.parsing import checked


class Rows:
    """Rows of words parted by blanks; at is the number of the last one taken, -1 at first."""

    def __init__(self, text):
        self.rows = [row.split(" ") for row in text.split("\n")]
        self.at = -1

    def is_end(self):
        """Whether all rows are taken."""
        return self.at + 1 == len(self.rows)

    def is_next(self, word):
        """Whether the next row begins with the word."""
        return not self.is_end() and self.rows[self.at + 1][0] == word

    def take(self, word, many):
        """The words behind the first one of the next row, refused where that is another or there are not so many."""
        parts = self.take_any(word)
        return checked(len(parts) == many, parts)

    def take_one(self, word):
        """The one word behind the first one of the next row."""
        return self.take(word, 1)[0]

    def take_any(self, word):
        """The words behind the first one of the next row, refused where that is another."""
        is_so = self.is_next(word)
        # Where there is no next row, this is how many there are.
        self.at += 1
        checked(is_so, word)
        return self.rows[self.at][1:]

    def finish(self):
        """All rows are taken, and at is how many there are."""
        self.at = len(self.rows)
