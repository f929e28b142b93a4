"""Best tables: those that pay no more than the least rate."""

from flagfree.errors import BadTable, NoEnd, NoWay, Stuck, TooMany
from flagfree.games import Duel, safe_rows, won_rows
from flagfree.least import least_rate
from flagfree.menus import Menu
from flagfree.rates import worst
from flagfree.rules import Table
from flagfree.settings import check_setting
from flagfree.traps import lost_ends, moves_at

MOST_TABLES = 200
MOST_MOVES = 8


def rate_of(setting):
    """The least rate of a setting; raises NoWay if its start is lost."""
    check_setting(setting)
    rate = least_rate(setting)
    if rate is None:
        raise NoWay(setting.start)
    return rate


class Search:
    """What goes through the best tables of a setting; told is a dict from ends to the rows that they got so far."""

    def __init__(self, setting):
        rate = rate_of(setting)
        moves = moves_at(setting, None)
        rows = won_rows(safe_rows(setting, moves, lost_ends(moves)), rate)
        self.start = setting.start
        self.duel = Duel(rows, rate, -1)
        # The rows of an end that keep the rate from there: no other one does, whatever is told at other ends.
        self._fit = {}

    def taken_with(self, told, start):
        """The rows of a table that keeps the rate from a start on, with those that are told; None if none does."""
        numbers, taken = self.duel.solve({end: [told[end]] for end in told})
        if numbers[start] > self.duel.most:
            return None
        return taken

    def kept_with(self, told, taken):
        """The same from the start of the setting on, where taken are the rows of a table that keeps the rate."""
        if all([taken[end][0] == told[end][0] for end in told]):
            return taken
        return self.taken_with(told, self.start)

    def fit_rows(self, end):
        """The rows of an end with which the rate can be kept from there."""
        if end not in self._fit:
            rows = self.duel.rows[end]
            self._fit[end] = [row for row in rows if self.taken_with({end: row}, end) is not None]
        return self._fit[end]

    def next_end(self, told):
        """The least end that comes by what is told and has no row, None if each one has."""
        come = [self.start]
        at = 0
        while at < len(come):
            if come[at] in told:
                come.extend([behind for _, behind in told[come[at]][2] if behind not in come])
            at = at + 1
        missing = [end for end in come if end not in told]
        if len(missing) == 0:
            return None
        return min([str(end) for end in missing])


def best_tables(setting):
    """The best tables, one by one, in the order of the moves that they tell first."""
    search = Search(setting)
    many = 0
    ahead = [({}, search.taken_with({}, setting.start))]
    while len(ahead) > 0:
        told, taken = ahead.pop()
        kept = search.kept_with(told, taken)
        if kept is None:
            continue
        end = search.next_end(told)
        if end is not None:
            ahead.extend([({**told, end: row}, kept) for row in reversed(list(search.fit_rows(end)))])
            continue
        if many == MOST_TABLES:
            raise TooMany("tables", MOST_TABLES)
        many = many + 1
        yield Table({one: told[one][0] for one in told})


def first_best(setting):
    """The first best table."""
    for table in best_tables(setting):
        return table


def count_best(setting):
    """How many best tables there are."""
    return len(list(best_tables(setting)))


def is_best(setting, table):
    """Whether a value is a Table that pays the least rate, whatever it tells at ends that do not come."""
    try:
        found = worst(setting, table)
    except (Stuck, BadTable):
        return False
    return found.rate == least_rate(setting)


def ends_otherwise(table, best):
    """At how many ends of a best table another table tells another move, or none."""
    return len([end for end in best if end not in table or table[end] != best[end]])


def nearest_best(setting, table):
    """The first of the best tables with the fewest ends at which a table tells another move or none, and how many."""
    check_setting(setting)
    if not isinstance(table, Table):
        raise BadTable("table")
    tables = list(best_tables(setting))
    many = [ends_otherwise(table, best) for best in tables]
    fewest = min([int(number) for number in many])
    return tables[many.index(fewest)], fewest


def least_moves(setting, end):
    """The moves that best tables of the setting with this start tell at its start."""
    check_setting(setting)
    if end not in setting.bars.ends:
        raise NoEnd(end)
    there = setting.with_start(end)
    rate = least_rate(there)
    if rate is None:
        return ()
    return tuple([move for move in setting.menu if least_rate(there, {end: move}) == rate])


def keeps_with(setting, moves, rate):
    """Whether the least rate is this one with some of the moves of the menu alone."""
    return least_rate(setting.with_menu(Menu.of(setting.bars.signs, moves))) == rate


def needless_moves(setting):
    """The moves without which, each left out alone, the least rate is as it is."""
    rate = rate_of(setting)
    moves = list(setting.menu)
    return tuple([move for move in moves if keeps_with(setting, [one for one in moves if one != move], rate)])


def chosen_of(moves, many):
    """All lists of so many of some moves, in the order of their indexes."""
    if many == 0:
        return [[]]
    return [[moves[at], *rest] for at in range(len(moves)) for rest in chosen_of(moves[at + 1:], many - 1)]


def fewest_moves(setting):
    """The first of the menus of as few moves as can be with which the least rate is as it is."""
    rate = rate_of(setting)
    moves = list(setting.menu)
    if len(moves) > MOST_MOVES:
        raise TooMany("moves", MOST_MOVES)
    needless = needless_moves(setting)
    needed = [move for move in moves if move not in needless]
    for many in range(len(needed), len(moves) + 1):
        for chosen in chosen_of(moves, many):
            if all([move in chosen for move in needed]) and keeps_with(setting, chosen, rate):
                return Menu.of(setting.bars.signs, chosen)
