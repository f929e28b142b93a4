"""Sizes: the least prices for which some rule sends all contents of so many signs."""

from flagfree.errors import BadEnd, BadMove, BadNumber, NoRound, TooMany
from flagfree.games import outcomes_of
from flagfree.moves import Put
from flagfree.rows import Rows, ends_that_come
from flagfree.settings import check_setting
from flagfree.signs import is_integer
from flagfree.traps import rounds

MOST_SIGNS = 400
MOST_ROWS = 200


class Sizes:
    """A paper: the rows of 0 to so many signs."""

    def __init__(self, rows):
        self.rows = rows

    def __eq__(self, other):
        return isinstance(other, Sizes) and self.rows == other.rows


class Round:
    """A paper: from first on the prices of the lot grow by gain with each step."""

    def __init__(self, first, step, gain, lot):
        self.first = first
        self.step = step
        self.gain = gain
        self.lot = lot

    def __eq__(self, other):
        return (isinstance(other, Round) and self.first == other.first and self.step == other.step
                and self.gain == other.gain and self.lot == other.lot)


def check_number(setting, n):
    """See that these are a Setting and an integer from 0."""
    check_setting(setting)
    if not is_integer(n) or n < 0:
        raise BadNumber(n)


def check_size(setting, n):
    """See that these are a Setting and an integer from 0 to the most signs."""
    check_number(setting, n)
    if n > MOST_SIGNS:
        raise TooMany("signs", MOST_SIGNS)


def sizes(setting, n):
    """The Sizes of 0 to n signs."""
    check_size(setting, n)
    return Sizes(tuple(Rows(setting).all_to(n)))


def gains_fit(come, row, later, gain):
    """Whether each end that comes and has a number in a later row has gained so much at least."""
    return all([end not in later or later[end] - row[end] >= gain for end in come])


def lot_with(come, row, later, gain):
    """The ends that come and have gained just so much, as a dict."""
    return {end: True for end in come if end in later and later[end] - row[end] == gain}


def is_within(ends, lot):
    """Whether all of some ends are of a lot."""
    return all([end in lot for end in ends])


def stays_at(leads, end, lot):
    """Whether one of the rows of ends to which moves lead from an end is of the lot alone."""
    return any([is_within(ends, lot) for ends in leads[end]])


def ends_behind(outcomes):
    """The ends to which outcomes (price, end behind) lead."""
    return [behind for _, behind in outcomes]


def leads_at(told, ahead, row, come):
    """The dict from the ends that come to the lists of ends to which the moves lead that have the price of a row."""
    leads = {}
    for end in come:
        leads[end] = [ends_behind(outcomes) for _, outcomes in told.having(ahead, row, end)]
    return leads


def kept_lot(lot, leads, start):
    """The greatest part of a lot that moves need not leave, empty if the start is not in it."""
    left = lot
    while start in left:
        fewer = left
        for told in leads:
            fewer = {end: True for end in fewer if stays_at(told, end, fewer)}
        if len(fewer) == len(left):
            return left
        left = fewer
    return {}


def round_from(first, rows, leads, come):
    """The Round of the least step from a number of signs on, None if there is none."""
    start = come[0]
    for step in range(1, len(rows) - first):
        row = rows[first]
        later = rows[first + step]
        gain = later[start] - row[start]
        if gains_fit(come, row, later, gain):
            lot = kept_lot(lot_with(come, row, later, gain), leads[first:first + step], start)
            if len(lot) > 0:
                return Round(first, step, gain, tuple(sorted([str(end) for end in lot])))
    return None


def round_of(setting):
    """The Round of the least first, and for it of the least step."""
    check_setting(setting)
    if setting.start in rounds(setting):
        raise NoRound(MOST_ROWS)
    come = ends_that_come(setting)
    told = Rows(setting)
    rows = told.all_to(MOST_ROWS)
    # At index m stand the leads of the row of m + 1 signs.
    leads = [leads_at(told, rows[m], rows[m + 1], come) for m in range(MOST_ROWS)]
    for first in range(MOST_ROWS):
        found = round_from(first, rows, leads, come)
        if found is not None:
            return found
    raise NoRound(MOST_ROWS)


def size(setting, n):
    """The least price for n signs from the start on, None if it is missing."""
    check_number(setting, n)
    if n > MOST_SIGNS:
        if setting.start in rounds(setting):
            return None
        found = round_of(setting)
        times = (n - found.first) // found.step
        return size(setting, n - times * found.step) + times * found.gain
    return Rows(setting).all_to(n)[n].get(setting.start)


def check_end(setting, n, end):
    """See that these are a Setting, an integer from 0 to the most signs and an end."""
    check_size(setting, n)
    if end not in setting.bars.ends:
        raise BadEnd(end)


def best_moves(setting, n, end):
    """The moves that have the least price for n signs from an end."""
    check_end(setting, n, end)
    if n == 0:
        return ()
    told = Rows(setting)
    rows = told.all_to(n)
    return tuple([move for move, _ in told.having(rows[n - 1], rows[n], end)])


def reply(setting, n, end, move):
    """The least content sign that makes a code dearest for n signs from an end, None for a put."""
    check_end(setting, n, end)
    if n == 0:
        raise BadNumber(0)
    if move not in setting.menu:
        raise BadMove("move")
    if isinstance(move, Put):
        return None
    row = Rows(setting).all_to(n - 1)[n - 1]
    best = None
    most = -1
    for sign, price, _, behind in outcomes_of(setting, end, move):
        if behind is None or behind not in row:
            return sign
        if price + row[behind] > most:
            most = price + row[behind]
            best = sign
    return best
