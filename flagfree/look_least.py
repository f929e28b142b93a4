"""Certificates of the least rate, looked at without a search."""

from flagfree.errors import BadRate
from flagfree.games import outcomes_of
from flagfree.least import Least
from flagfree.look_rates import are_numbers, keeps_at
from flagfree.look_traps import is_let, is_trap
from flagfree.prices import Rate
from flagfree.rules import Table
from flagfree.settings import check_setting
from flagfree.traps import check_fixed, told_moves


def check_rated(setting, rate, fixed):
    """See that these are a Setting, a Rate and fixed moves."""
    check_setting(setting)
    if not isinstance(rate, Rate):
        raise BadRate("rate")
    check_fixed(setting, fixed)


def are_keeping(setting, rate, table, numbers, fixed):
    """Whether numbers keep a rate for a table."""
    if not isinstance(table, Table) or not are_numbers(setting, numbers):
        return False
    if not all([end in table and is_let(setting, fixed, end, table[end]) for end in numbers]):
        return False
    return all([keeps_at(setting, end, table[end], rate, numbers) for end in numbers])


def row_holds(outcome, rate, number, against):
    """Whether the number of an end is at most what the row of an outcome to an end with a number lets."""
    _, price, weight, behind = outcome
    return behind in against and number <= rate.weight * price - rate.price * weight + against[behind]


def is_answered(setting, rate, end, move, against, rounds):
    """Whether a move at an end completes a word, leads to an end of a trap, or to one whose number forces a rate."""
    for outcome in outcomes_of(setting, end, move):
        if outcome[3] is None or outcome[3] in rounds or row_holds(outcome, rate, against[end], against):
            return True
    return False


def are_forcing(setting, rate, against, rounds, fixed):
    """Whether numbers, beside a trap, force a rate."""
    if not are_numbers(setting, against) or not is_trap(setting, fixed, rounds):
        return False
    return all([is_answered(setting, rate, end, move, against, rounds)
                for end in against for move in told_moves(setting, fixed, end)])


def shows_keeps(setting, rate, table, numbers, fixed=None):
    """Whether a value is numbers that keep a rate for a table."""
    check_rated(setting, rate, fixed)
    return are_keeping(setting, rate, table, numbers, fixed)


def shows_forces(setting, rate, against, rounds, fixed=None):
    """Whether two values are numbers that force a rate, and a trap beside them."""
    check_rated(setting, rate, fixed)
    return are_forcing(setting, rate, against, rounds, fixed)


def shows_least(setting, value, fixed=None):
    """Whether a value is a Least whose numbers of both kinds show its rate."""
    check_fixed(setting, fixed)
    if not isinstance(value, Least) or not isinstance(value.rate, Rate):
        return False
    return (are_keeping(setting, value.rate, value.table, value.numbers, fixed)
            and are_forcing(setting, value.rate, value.against, value.rounds, fixed))
