"""Settings: bars, a menu, prices and a start."""

from flagfree.bars import Bars, ends_of, take_bars
from flagfree.cursor import Cursor
from flagfree.errors import BadEnd, BadMove, BadSetting, NoEnd
from flagfree.menus import Menu, take_moves
from flagfree.moves import Move, Put
from flagfree.prices import Prices, take_prices
from flagfree.signs import exchanged, is_exchange


def check_setting(setting):
    """See that this is a Setting."""
    if not isinstance(setting, Setting):
        raise BadSetting("setting")


def told_outcomes(bars, end, move):
    """The outcomes of a move of the alphabet at an end of the bars."""
    pairs = [(None, move.sign)] if isinstance(move, Put) else list(move.words)
    return tuple([(sign, text, bars.onward(end, text)) for sign, text in pairs])


def is_free_move(bars, end, move):
    """Whether no outcome of a move of the alphabet at an end of the bars completes a barred word."""
    if isinstance(move, Put):
        return bars.onward(end, move.sign) is not None
    return all([bars.onward(end, word) is not None for _, word in move.words])


def take_alphabet(cursor, signs):
    """Take the alphabet that the bars of a setting have, and the colon behind it."""
    cursor.expect(signs)
    cursor.expect(":")


def take_start(cursor, words):
    """Take the start of a setting with these barred words."""
    ends = ends_of(words)
    if cursor.peek() == "-":
        cursor.take(True)
        return ""
    return cursor.take(cursor.peek() != "" and cursor.peek() in ends)


def take_setting(cursor):
    """Take the text of a Setting: the tuple of what made_setting makes it of."""
    signs, words = take_bars(cursor)
    cursor.expect("/")
    take_alphabet(cursor, signs)
    moves = take_moves(cursor, signs)
    cursor.expect("/")
    take_alphabet(cursor, signs)
    prices = take_prices(cursor, signs)
    cursor.expect("/")
    return signs, words, moves, prices, take_start(cursor, words)


def made_setting(signs, words, moves, prices, start):
    """The Setting of what was taken from a text: only now the classes may refuse it, behind all wrong words."""
    bars = Bars(signs, *words)
    return Setting(bars, Menu(signs, *moves), prices, start)


class Setting:
    """What may not be sent, which moves there are, what signs cost and weigh, where the text begins."""

    def __init__(self, bars, menu=None, prices=None, start=""):
        if not isinstance(bars, Bars):
            raise BadSetting("bars")
        if menu is not None and (not isinstance(menu, Menu) or menu.signs != bars.signs):
            raise BadSetting("menu")
        if prices is not None and (not isinstance(prices, Prices) or prices.signs != bars.signs):
            raise BadSetting("prices")
        if start not in bars.ends:
            raise BadEnd(start)
        self.bars = bars
        self.menu = Menu.plain(bars.signs) if menu is None else menu
        self.prices = Prices(bars.signs) if prices is None else prices
        self.start = start
        # The moves that are let at the ends at which they were asked for: found once, as a Setting never changes.
        self._let = {}

    @classmethod
    def read(cls, text):
        """The Setting with this text."""
        cursor = Cursor(text)
        told = take_setting(cursor)
        cursor.finish()
        return made_setting(*told)

    def __str__(self):
        return " / ".join([str(self.bars), str(self.menu), str(self.prices), self.start or "-"])

    def __eq__(self, other):
        if not isinstance(other, Setting) or self.start != other.start:
            return False
        return self.bars == other.bars and self.menu == other.menu and self.prices == other.prices

    def _check_move(self, end, move):
        """See that these are an end of the bars and a move of the alphabet."""
        if end not in self.bars.ends:
            raise NoEnd(end)
        if not isinstance(move, Move) or not move.is_within(self.bars.signs):
            raise BadMove("menu")

    def outcomes(self, end, move):
        """The triples (content sign, text, end behind) of a move at an end."""
        self._check_move(end, move)
        return told_outcomes(self.bars, end, move)

    def is_fit(self, end, move):
        """Whether no outcome of a move at an end completes a barred word."""
        self._check_move(end, move)
        return is_free_move(self.bars, end, move)

    def let(self, end):
        """The moves of the menu that are fit at an end."""
        if isinstance(end, str) and end in self._let:
            return self._let[end]
        if end not in self.bars.ends:
            raise NoEnd(end)
        self._let[end] = tuple([move for move in self.menu.moves if is_free_move(self.bars, end, move)])
        return self._let[end]

    def with_bars(self, bars):
        """The setting with other bars."""
        return Setting(bars, self.menu, self.prices, self.start)

    def with_menu(self, menu):
        """The setting with another menu."""
        return Setting(self.bars, menu, self.prices, self.start)

    def with_prices(self, prices):
        """The setting with other prices."""
        return Setting(self.bars, self.menu, prices, self.start)

    def with_start(self, start):
        """The setting with another start."""
        return Setting(self.bars, self.menu, self.prices, start)

    def changed(self, table):
        """The setting with each sign exchanged everywhere."""
        if not is_exchange(table, self.bars.signs):
            raise BadSetting("table")
        return Setting(self.bars.changed(table), self.menu.changed(table), self.prices.changed(table),
                       exchanged(self.start, table))
