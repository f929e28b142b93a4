"""Turns: what a table sends for one content sign, with the puts ahead of its word."""

from flagfree.moves import Put
from flagfree.rules import Table


def fit_move(setting, table, end):
    """The move of a table at an end, None if there is none that is in the menu and fit."""
    if end not in table or table[end] not in setting.menu or not setting.is_fit(end, table[end]):
        return None
    return table[end]


def turns_at(setting, table, end):
    """The dict from the content signs to triples (text, price, end behind) of what a table sends from an end on.

    None if it lacks a fit move on the way, or puts in signs for ever.
    """
    ahead = ""
    for _ in setting.bars.ends:
        move = fit_move(setting, table, end)
        if move is None:
            return None
        if not isinstance(move, Put):
            return {sign: (ahead + word, setting.prices.cost(ahead + word), setting.bars.onward(end, word))
                    for sign, word in move.words}
        ahead = ahead + move.sign
        end = setting.bars.onward(end, move.sign)
    return None


def turns_of(setting, table):
    """The dict from the ends that come behind contents to their turns, in the order in which they are first met.

    None for any value of table that is no Table which sends all contents.
    """
    if not isinstance(table, Table):
        return None
    found = {}
    ends = [setting.start]
    at = 0
    while at < len(ends):
        turns = turns_at(setting, table, ends[at])
        if turns is None:
            return None
        found[ends[at]] = turns
        for _, _, behind in turns.values():
            if behind not in ends:
                ends.append(behind)
        at = at + 1
    return found
