"""Settings and tables read from their texts, row by row."""

from flagfree.bars import Bars, take_bars
from flagfree.cursor import Cursor, take_signs
from flagfree.errors import BadMenu, BadText, TooMany
from flagfree.menus import Menu, take_moves
from flagfree.moves import take_move
from flagfree.prices import take_prices
from flagfree.rules import MOST_SIGNS, Table
from flagfree.settings import Setting
from flagfree.signs import SIGNS, is_word


def rows_of(text):
    """The rows of a text."""
    if not isinstance(text, str):
        raise BadText(0, 0)
    return text.split("\n")


def row_cursor(rows, at, word):
    """A cursor behind the first word of a row, which can only be this one."""
    if at >= len(rows):
        raise BadText(at, 0)
    cursor = Cursor(rows[at], at)
    cursor.expect(word)
    return cursor


def read_bars(rows):
    """The Bars that the first row tells."""
    cursor = row_cursor(rows, 0, "bars")
    signs, words = take_bars(cursor)
    cursor.finish()
    try:
        return Bars(signs, *words)
    except TooMany:
        raise BadText(0, 0) from None


def read_menu(rows, signs):
    """The Menu of an alphabet that the second row tells."""
    cursor = row_cursor(rows, 1, "menu")
    told = take_signs(cursor)
    moves = take_moves(cursor, told)
    cursor.finish()
    if told != signs:
        raise BadText(1, 0)
    try:
        return Menu(signs, *moves)
    except (BadMenu, TooMany):
        raise BadText(1, 0) from None


def read_prices(rows, signs):
    """The Prices of an alphabet that the third row tells."""
    cursor = row_cursor(rows, 2, "prices")
    prices = take_prices(cursor, take_signs(cursor))
    cursor.finish()
    if prices.signs != signs:
        raise BadText(2, 0)
    return prices


def read_start(rows, ends):
    """The start that the fourth row tells, one of some ends."""
    cursor = row_cursor(rows, 3, "start")
    word = cursor.take(cursor.peek() == "-" or is_word(cursor.peek(), SIGNS, MOST_SIGNS))
    cursor.finish()
    start = "" if word == "-" else word
    if start not in ends:
        raise BadText(3, 0)
    return start


def read_setting(text):
    """The Setting with this text."""
    rows = rows_of(text)
    bars = read_bars(rows)
    menu = read_menu(rows, bars.signs)
    prices = read_prices(rows, bars.signs)
    start = read_start(rows, bars.ends)
    if len(rows) > 4:
        raise BadText(4, 0)
    return Setting(bars, menu, prices, start)


def take_end(cursor, last):
    """Take the end of a row of a table that stands behind another end, None ahead of the first row."""
    word = cursor.peek()
    if word == "-":
        cursor.take(last is None)
        return ""
    return cursor.take(is_word(word, SIGNS, MOST_SIGNS) and (last is None or word > last))


def read_table(text):
    """The Table with this text."""
    rows = rows_of(text)
    if text == "":
        return Table({})
    moves = {}
    last = None
    for at, row in enumerate(rows):
        cursor = Cursor(row, at)
        last = take_end(cursor, last)
        cursor.expect(":")
        moves[last] = take_move(cursor)
        cursor.finish()
    return Table(moves)
