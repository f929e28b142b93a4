"""Certificates of sizes, looked at row by row."""

from flagfree.rows import Rows, ends_that_come
from flagfree.settings import check_setting
from flagfree.signs import is_integer
from flagfree.sizes import Round, Sizes, gains_fit, leads_at, lot_with, stays_at


def is_row(value, row):
    """Whether a value is a dict of integers equal to a row."""
    if not isinstance(value, dict) or not all([is_integer(number) for number in value.values()]):
        return False
    return value == row


def are_rows(setting, value):
    """Whether a value is a Sizes of a tuple of just the first rows."""
    if not isinstance(value, Sizes) or not isinstance(value.rows, tuple) or len(value.rows) == 0:
        return False
    told = Rows(setting)
    row = told.empty_row()
    for one in value.rows:
        if not is_row(one, row):
            return False
        row = told.onward(row)
    return True


def is_lot(lot, come):
    """Whether a value is an ascending tuple of ends that come, with the start, which comes first of all."""
    if not isinstance(lot, tuple) or not all([end in come for end in lot]) or come[0] not in lot:
        return False
    return all([lot[k] < lot[k + 1] for k in range(len(lot) - 1)])


def is_round_told(value, come, many):
    """Whether a value is a Round of integers and a lot that so many rows can show."""
    if not isinstance(value, Round) or not all([is_integer(one) for one in (value.first, value.step, value.gain)]):
        return False
    if value.first < 0 or value.step < 1 or value.gain < 0 or value.first + value.step >= many:
        return False
    return is_lot(value.lot, come)


def shows_sizes(setting, value):
    """Whether a value is a Sizes of just the first rows."""
    check_setting(setting)
    return are_rows(setting, value)


def shows_round(setting, value, rows):
    """Whether a value is a Round by the rows of a Sizes."""
    check_setting(setting)
    if not are_rows(setting, rows):
        return False
    come = ends_that_come(setting)
    if not is_round_told(value, come, len(rows.rows)):
        return False
    row = rows.rows[value.first]
    later = rows.rows[value.first + value.step]
    fits = lot_with(come, row, later, value.gain)
    if not gains_fit(come, row, later, value.gain) or not all([end in fits for end in value.lot]):
        return False
    told = Rows(setting)
    lot = {end: True for end in value.lot}
    for m in range(value.first, value.first + value.step):
        leads = leads_at(told, rows.rows[m], rows.rows[m + 1], value.lot)
        if not all([stays_at(leads, end, lot) for end in value.lot]):
            return False
    return True
