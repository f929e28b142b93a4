"""Texts: their parts joined, and their words taken one behind another."""

from flagfree.errors import BadText
from flagfree.signs import is_alphabet


class Cursor:
    """Stands ahead of the next word of a text, or of a row of a text, whose words are parted at single spaces."""

    def __init__(self, text, row=0):
        if not isinstance(text, str):
            raise BadText(row, 0)
        self.words = text.split(" ")
        self.row = row
        self.at = 0

    def peek(self):
        """The next word, None behind the last one."""
        if self.at < len(self.words):
            return self.words[self.at]
        return None

    def take(self, stands):
        """The next word, and on to the one behind it; stands tells whether it can stand here."""
        if not stands:
            raise BadText(self.row, self.at)
        self.at = self.at + 1
        return self.words[self.at - 1]

    def expect(self, word):
        """Take this word: no other one can stand here."""
        self.take(self.peek() == word)

    def finish(self):
        """See that no word is left."""
        if self.at < len(self.words):
            raise BadText(self.row, self.at)


def take_signs(cursor):
    """Take an alphabet and the colon behind it."""
    signs = cursor.take(is_alphabet(cursor.peek()))
    cursor.expect(":")
    return signs


def joined(parts, between):
    """Some texts with another one between, a dash without any."""
    if len(parts) == 0:
        return "-"
    return between.join(parts)
