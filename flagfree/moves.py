"""Moves: puts, which send a sign of their own, and codes, which send content signs as words."""

from flagfree.cursor import Cursor
from flagfree.errors import BadMove, BadSign, BadSigns, BadWord
from flagfree.signs import SIGNS, exchanged, is_alphabet, is_sign, is_swap, is_text, is_word

MOST_SIGNS = 3


def begins_alike(word, others):
    """Whether a word begins with one of some others, or one of them with it."""
    return any([word.startswith(other) or other.startswith(word) for other in others])


def check_words(words):
    """See that a value is a dict from content signs to the words of a code."""
    if not isinstance(words, dict) or len(words) == 0:
        raise BadMove("words")
    for sign in words:
        if not is_sign(sign, SIGNS):
            raise BadSign(sign)
    for word in words.values():
        if not is_word(word, SIGNS, MOST_SIGNS):
            raise BadWord(word)
    told = list(words.values())
    if any([begins_alike(told[k], told[:k]) for k in range(len(told))]):
        raise BadMove("begins")


def take_code_word(cursor, words, signs):
    """Take the word of a code behind those that it has so far."""
    word = cursor.peek()
    return cursor.take(is_word(word, signs, MOST_SIGNS) and not begins_alike(word, list(words.values())))


def take_code(cursor):
    """Take a code of any content signs, ascending."""
    cursor.expect("code")
    sign = cursor.take(is_sign(cursor.peek(), SIGNS))
    words = {}
    words[sign] = take_code_word(cursor, words, SIGNS)
    while is_sign(cursor.peek(), SIGNS) and cursor.peek() > sign:
        sign = cursor.take(True)
        words[sign] = take_code_word(cursor, words, SIGNS)
    return Code(words)


def take_full_code(cursor, signs):
    """Take a code of an alphabet."""
    cursor.expect("code")
    words = {}
    for sign in signs:
        cursor.expect(sign)
        words[sign] = take_code_word(cursor, words, signs)
    return Code(words)


def take_move(cursor):
    """Take a move of any signs."""
    if cursor.peek() == "code":
        return take_code(cursor)
    cursor.expect("put")
    return Put(cursor.take(is_sign(cursor.peek(), SIGNS)))


class Move:
    """The base of puts and codes; it is not made itself."""

    @classmethod
    def read(cls, text):
        """The move with this text."""
        cursor = Cursor(text)
        move = take_move(cursor)
        cursor.finish()
        return move

    def is_of(self, signs):
        """Whether it is a move of an alphabet: a move that is neither put nor code is of none."""
        return False

    def is_within(self, signs):
        """Whether it is a move of what is known to be an alphabet."""
        return False

    def changed(self, table):
        """The move with each sign exchanged: nothing is known of one that is neither put nor code."""
        raise BadMove("table")


class Put(Move):
    """Sends a sign, and nothing of the content."""

    def __init__(self, sign):
        if not is_sign(sign, SIGNS):
            raise BadSign(sign)
        self.sign = sign

    def __eq__(self, other):
        return isinstance(other, Put) and self.sign == other.sign

    def __str__(self):
        return f"put {self.sign}"

    def is_of(self, signs):
        """Whether its sign is one of an alphabet."""
        return is_alphabet(signs) and self.is_within(signs)

    def is_within(self, signs):
        """Whether its sign is one of these."""
        return self.sign in signs

    def changed(self, table):
        """The put of the sign that this one is exchanged for."""
        if not is_swap(table, SIGNS) or self.sign not in table:
            raise BadMove("table")
        return Put(table[self.sign])


class Code(Move):
    """Sends the next sign of the content as its word."""

    def __init__(self, words):
        check_words(words)
        content = sorted([str(sign) for sign in words])
        self.words = tuple([(sign, words[sign]) for sign in content])
        self._word_of = {sign: word for sign, word in self.words}
        self._content = "".join(content)
        self._sent = "".join([word for _, word in self.words])

    @staticmethod
    def plain(signs):
        """The code that sends each sign as itself."""
        if not is_alphabet(signs):
            raise BadSigns(signs)
        return Code({sign: sign for sign in signs})

    @staticmethod
    def escape(signs, sign, told):
        """The code that sends the keys of told as this sign and what is told for them, others as themselves."""
        if not is_alphabet(signs):
            raise BadSigns(signs)
        if not is_sign(sign, signs):
            raise BadSign(sign)
        if not is_swap(told, signs) or sign not in told:
            raise BadMove("told")
        return Code({one: sign + told[one] if one in told else one for one in signs})

    @staticmethod
    def chosen(signs, ahead):
        """The code that sends ahead of each sign the one that is told for it."""
        if not is_alphabet(signs):
            raise BadSigns(signs)
        if not isinstance(ahead, dict) or len(ahead) != len(signs):
            raise BadMove("ahead")
        if not all([sign in ahead and is_sign(ahead[sign], signs) for sign in signs]):
            raise BadMove("ahead")
        return Code({sign: ahead[sign] + sign for sign in signs})

    def __eq__(self, other):
        return isinstance(other, Code) and self.words == other.words

    def __str__(self):
        return " ".join(["code", *[f"{sign} {word}" for sign, word in self.words]])

    def __len__(self):
        return len(self.words)

    def __iter__(self):
        return iter(self.words)

    def __contains__(self, sign):
        return is_sign(sign, SIGNS) and sign in self._word_of

    def __getitem__(self, sign):
        if not is_sign(sign, SIGNS) or sign not in self._word_of:
            raise BadSign(sign)
        return self._word_of[sign]

    def is_of(self, signs):
        """Whether it has a word of an alphabet for just its signs."""
        return is_alphabet(signs) and self.is_within(signs)

    def is_within(self, signs):
        """Whether it has a word of these signs for just these signs."""
        return self._content == signs and is_text(self._sent, signs)

    def changed(self, table):
        """The code with each sign exchanged, content signs too."""
        if not is_swap(table, SIGNS):
            raise BadMove("table")
        if not all([one in table for sign, word in self.words for one in sign + word]):
            raise BadMove("table")
        return Code({table[sign]: exchanged(word, table) for sign, word in self.words})
