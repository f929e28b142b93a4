"""Bars: an alphabet and the words that are never sent."""

from flagfree.cursor import Cursor, joined, take_signs
from flagfree.errors import BadBars, BadSent, BadSigns, BadWord, NoEnd, TooMany
from flagfree.signs import exchanged, holds_some, is_alphabet, is_exchange, is_text, is_word

MOST_SIGNS = 8
MOST_WORDS = 8
MOST_ENDS = 24


def least_words(words):
    """The words that hold no other one, ascending, each one once."""
    unlike = {word: True for word in words}
    least = [word for word in unlike if not holds_some(word, [other for other in unlike if other != word])]
    return tuple(sorted([str(word) for word in least]))


def ends_of(words):
    """The ends of all free texts, ascending: the beginnings of words that hold no other one."""
    found = {"": True}
    for word in words:
        for k in range(len(word)):
            found[word[:k]] = True
    return tuple(sorted([str(end) for end in found]))


def onward_ends(signs, words, ends):
    """The dict from each end to the dict from each sign to the end behind both, None if a word is completed."""
    known = {end: end for end in ends}
    for word in words:
        known[word] = None
    found = {}
    shorter = {}
    for end in sorted(ends, key=len):
        # Where neither an end nor a word begins so, the longest shorter ending that is an end tells what comes.
        shorter[end] = found[shorter[end[:-1]]][end[-1]] if len(end) > 1 else ""
        less = found[shorter[end]] if end != "" else {}
        found[end] = {sign: known.get(end + sign, less.get(sign, "")) for sign in signs}
    return found


def checked_words(signs, words):
    """The words that bars keep; raises what Bars raises of them."""
    for word in words:
        if not is_word(word, signs, MOST_SIGNS):
            raise BadWord(word)
    if len({word: True for word in words}) > MOST_WORDS:
        raise TooMany("words", MOST_WORDS)
    least = least_words(words)
    if len(ends_of(least)) > MOST_ENDS:
        raise TooMany("ends", MOST_ENDS)
    return least


def take_bars(cursor):
    """Take the text of a Bars: the pair of its alphabet and the list of its words."""
    signs = take_signs(cursor)
    if cursor.peek() == "-":
        cursor.take(True)
        return signs, []
    words = [cursor.take(is_word(cursor.peek(), signs, MOST_SIGNS))]
    while stands_behind(cursor.peek(), words, signs):
        words.append(cursor.take(True))
    return signs, words


def stands_behind(word, words, signs):
    """Whether a word can stand behind the words of a text of bars."""
    if not is_word(word, signs, MOST_SIGNS) or word <= words[-1]:
        return False
    return not any([one in word or word in one for one in words])


class Bars:
    """An alphabet and some barred words."""

    def __init__(self, signs, *words):
        if not is_alphabet(signs):
            raise BadSigns(signs)
        self.signs = signs
        self.words = checked_words(signs, words)
        self.ends = ends_of(self.words)
        self._longest_first = sorted(self.ends, key=len, reverse=True)
        # What a sign costs to look up hangs on the end and the sign alone, however often it is asked.
        self._onward = onward_ends(signs, self.words, self.ends)

    @classmethod
    def of(cls, signs, words):
        """The Bars of a list or tuple of words."""
        if not is_alphabet(signs):
            raise BadSigns(signs)
        if not isinstance(words, (list, tuple)):
            raise BadBars("words")
        return Bars(signs, *words)

    @classmethod
    def read(cls, text):
        """The Bars with this text."""
        cursor = Cursor(text)
        signs, words = take_bars(cursor)
        cursor.finish()
        return Bars(signs, *words)

    def __str__(self):
        return f"{self.signs} : {joined(self.words, ' ')}"

    def __len__(self):
        return len(self.words)

    def __iter__(self):
        return iter(self.words)

    def __contains__(self, text):
        return is_text(text, self.signs) and holds_some(text, self.words)

    def __eq__(self, other):
        return isinstance(other, Bars) and self.signs == other.signs and self.words == other.words

    def end_of(self, text):
        """The end of a free text."""
        if not is_text(text, self.signs):
            raise BadSent(text)
        end = self._end(text)
        if end is None:
            raise BadSent(text)
        return end

    def behind(self, end, text):
        """The end behind an end and a text, None if a barred word stands in both together."""
        if end not in self.ends:
            raise NoEnd(end)
        if not is_text(text, self.signs):
            raise BadSent(text)
        return self._end(end + text)

    def onward(self, end, text):
        """The end behind an end of these bars and a text of their signs, None if a word is completed."""
        for sign in text:
            if end is None:
                return None
            end = self._onward[end][sign]
        return end

    def _end(self, text):
        """The end of a text, None if a barred word stands in it."""
        if holds_some(text, self.words):
            return None
        return [end for end in self._longest_first if text.endswith(end)][0]

    def changed(self, table):
        """The bars with each sign exchanged."""
        if not is_exchange(table, self.signs):
            raise BadBars("table")
        words = [exchanged(word, table) for word in self.words]
        return Bars(self.signs, *words)

    def _check_other(self, other):
        """See that another value is a Bars of the same alphabet."""
        if not isinstance(other, Bars) or other.signs != self.signs:
            raise BadBars("other")

    def __or__(self, other):
        self._check_other(other)
        return Bars(self.signs, *self.words, *other.words)

    def __and__(self, other):
        self._check_other(other)
        words = [word for word in self.words if word in other.words]
        return Bars(self.signs, *words)

    def __sub__(self, other):
        self._check_other(other)
        words = [word for word in self.words if word not in other.words]
        return Bars(self.signs, *words)

    def __invert__(self):
        words = [word[::-1] for word in self.words]
        return Bars(self.signs, *words)

    def __le__(self, other):
        self._check_other(other)
        return all([holds_some(word, other.words) for word in self.words])

    def __lt__(self, other):
        return self <= other and not self == other
