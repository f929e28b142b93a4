"""Menus: the moves that a rule may make."""

from flagfree.cursor import Cursor, joined, take_signs
from flagfree.errors import BadMenu, BadMove, BadSigns, TooMany
from flagfree.moves import Code, Move, Put, take_full_code
from flagfree.signs import is_alphabet, is_exchange, is_sign

MOST_CODES = 8


def check_moves(signs, moves):
    """See that some values are moves of an alphabet, no two alike, with few enough codes."""
    for at, move in enumerate(moves):
        if not isinstance(move, Move) or not move.is_of(signs) or move in moves[:at]:
            raise BadMenu(at)
    if len([move for move in moves if isinstance(move, Code)]) > MOST_CODES:
        raise TooMany("codes", MOST_CODES)


def put_signs(moves):
    """The signs of the puts among some moves, ascending."""
    return sorted([str(move.sign) for move in moves if isinstance(move, Put)])


def take_menu_move(cursor, signs, last):
    """Take the move of a menu that stands behind the put of the sign last, which is empty behind codes."""
    if cursor.peek() == "code" and last == "":
        return take_full_code(cursor, signs)
    cursor.expect("put")
    sign = cursor.peek()
    return Put(cursor.take(is_sign(sign, signs) and sign > last))


def take_moves(cursor, signs):
    """Take the moves of a menu of an alphabet, perhaps none."""
    if cursor.peek() == "-":
        cursor.take(True)
        return []
    moves = [take_menu_move(cursor, signs, "")]
    while cursor.peek() == ";":
        cursor.take(True)
        last = moves[-1].sign if isinstance(moves[-1], Put) else ""
        moves.append(take_menu_move(cursor, signs, last))
    return moves


class Menu:
    """Some moves of an alphabet: codes as they were told, then puts ascending."""

    def __init__(self, signs, *moves):
        if not is_alphabet(signs):
            raise BadSigns(signs)
        check_moves(signs, moves)
        self.signs = signs
        self.codes = tuple([move for move in moves if isinstance(move, Code)])
        self.puts = tuple([Put(sign) for sign in put_signs(moves)])
        self.moves = self.codes + self.puts
        self._put_signs = {put.sign: True for put in self.puts}

    @classmethod
    def of(cls, signs, moves):
        """The Menu of a list or tuple of moves."""
        if not is_alphabet(signs):
            raise BadSigns(signs)
        if not isinstance(moves, (list, tuple)):
            raise BadMenu("moves")
        return Menu(signs, *moves)

    @classmethod
    def plain(cls, signs):
        """The Menu of the plain code and the puts of all signs."""
        moves = [Code.plain(signs)] + [Put(sign) for sign in signs]
        return Menu(signs, *moves)

    @classmethod
    def read(cls, text):
        """The Menu with this text."""
        cursor = Cursor(text)
        signs = take_signs(cursor)
        moves = take_moves(cursor, signs)
        cursor.finish()
        return Menu(signs, *moves)

    def __str__(self):
        return f"{self.signs} : {joined([str(move) for move in self.moves], ' ; ')}"

    def __len__(self):
        return len(self.moves)

    def __iter__(self):
        return iter(self.moves)

    def __contains__(self, move):
        if isinstance(move, Put):
            return move.sign in self._put_signs
        return move in self.codes

    def __eq__(self, other):
        return isinstance(other, Menu) and self.signs == other.signs and self.moves == other.moves

    def place(self, move):
        """The index of a move among the moves."""
        if move not in self.moves:
            raise BadMove("menu")
        return self.moves.index(move)

    def changed(self, table):
        """The menu with each sign exchanged."""
        if not is_exchange(table, self.signs):
            raise BadMenu("table")
        moves = [move.changed(table) for move in self.moves]
        return Menu(self.signs, *moves)

    def _check_other(self, other):
        """See that another value is a Menu of the same alphabet."""
        if not isinstance(other, Menu) or other.signs != self.signs:
            raise BadMenu("other")

    def __or__(self, other):
        self._check_other(other)
        more = [move for move in other.moves if move not in self.moves]
        return Menu(self.signs, *self.moves, *more)

    def __and__(self, other):
        self._check_other(other)
        moves = [move for move in self.moves if move in other.moves]
        return Menu(self.signs, *moves)

    def __sub__(self, other):
        self._check_other(other)
        moves = [move for move in self.moves if move not in other.moves]
        return Menu(self.signs, *moves)

    def __le__(self, other):
        self._check_other(other)
        return all([move in other.moves for move in self.moves])

    def __lt__(self, other):
        return self <= other and len(other.moves) > len(self.moves)
