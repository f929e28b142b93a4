"""Certificates of open and of lost ends, looked at without a search."""

from flagfree.moves import Code, Put
from flagfree.settings import told_outcomes
from flagfree.signs import is_integer
from flagfree.traps import Open, Trap, check_fixed, is_losing, moves_at


def is_let(setting, fixed, end, move):
    """Whether a value is a move that is let at an end: the fixed one there, otherwise one of the menu."""
    if fixed is not None and end in fixed:
        return fixed[end] == move
    return move in setting.menu


def is_way(setting, fixed, ways, end):
    """Whether the way of an end is an integer beside a move that is let there and leads to ends of the ways."""
    way = ways[end]
    if not isinstance(way, tuple) or len(way) != 2 or not is_let(setting, fixed, end, way[0]):
        return False
    return is_integer(way[1]) and all([behind in ways for _, _, behind in told_outcomes(setting.bars, end, way[0])])


def steps_fit(setting, ways, end):
    """Whether the steps of an end are 0 for a code, of a put more than those of the end to which it leads."""
    move, many = ways[end]
    if not isinstance(move, Put):
        return many == 0
    behind = setting.bars.onward(end, move.sign)
    return many >= 1 and many > ways[behind][1]


def shows_open(setting, value, fixed=None):
    """Whether a value is an Open whose ways go on to codes for ever, from the start on."""
    check_fixed(setting, fixed)
    if not isinstance(value, Open) or not isinstance(value.ways, dict) or setting.start not in value.ways:
        return False
    ways = value.ways
    if not all([end in setting.bars.ends and is_way(setting, fixed, ways, end) for end in ways]):
        return False
    return all([steps_fit(setting, ways, end) for end in ways])


def stays_within(rounds, end, told):
    """Whether each code among some moves completes a word or lowers the round of an end, and no put raises it."""
    lower = {one: True for one in rounds if rounds[one] < rounds[end]}
    as_low = {one: True for one in rounds if rounds[one] <= rounds[end]}
    return all([is_losing(ends, lower if isinstance(move, Code) else as_low) for move, ends in told])


def is_trap(setting, fixed, rounds):
    """Whether a value is the dict of a trap, perhaps of no ends."""
    if not isinstance(rounds, dict):
        return False
    if not all([end in setting.bars.ends and is_integer(rounds[end]) and rounds[end] >= 1 for end in rounds]):
        return False
    moves = moves_at(setting, fixed)
    return all([stays_within(rounds, end, moves[end]) for end in rounds])


def shows_trap(setting, value, fixed=None):
    """Whether a value is a Trap whose rounds are a trap with the start in it."""
    check_fixed(setting, fixed)
    return isinstance(value, Trap) and is_trap(setting, fixed, value.rounds) and setting.start in value.rounds
