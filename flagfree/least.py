"""The least rate that some rule keeps for all contents, with numbers that keep it and numbers that force it."""

from flagfree.errors import BadRate
from flagfree.games import Duel, moves_from, rate_above, safe_rows
from flagfree.prices import Rate
from flagfree.rings import greatest_ring
from flagfree.rules import Table
from flagfree.settings import check_setting
from flagfree.traps import Trap, check_fixed, lost_ends, moves_at


class Least:
    """A paper: the least rate, a table with numbers that keep it, and numbers with a trap that force it."""

    def __init__(self, rate, table, numbers, against, rounds):
        self.rate = rate
        self.table = table
        self.numbers = numbers
        self.against = against
        self.rounds = rounds

    def __eq__(self, other):
        return (isinstance(other, Least) and self.rate == other.rate and self.table == other.table
                and self.numbers == other.numbers and self.against == other.against and self.rounds == other.rounds)


def least_of_rows(start, rows, lost):
    """The Least of the rows of all open ends, the start among them."""
    rate = rate_above(rows)
    moves = {}
    kept = {}
    while True:
        # As long as some table pays less than this rate, the greatest one that it pays is the next one to try.
        duel = Duel(rows, rate, 1)
        numbers, taken = duel.solve({})
        if numbers[start] > duel.most:
            return Least(rate, Table(moves), kept, duel.forced(numbers), lost)
        graph, moves = moves_from(start, taken)
        rate, kept, _ = greatest_ring(graph)


def least(setting, fixed=None):
    """The Least of a setting, the Trap of all lost ends if its start is one of them."""
    check_fixed(setting, fixed)
    moves = moves_at(setting, fixed)
    lost = lost_ends(moves)
    if setting.start in lost:
        return Trap(lost)
    return least_of_rows(setting.start, safe_rows(setting, moves, lost), lost)


def least_rate(setting, fixed=None):
    """The least rate, None if the start is lost."""
    found = least(setting, fixed)
    if isinstance(found, Trap):
        return None
    return found.rate


def can_keep(setting, rate, fixed=None):
    """Whether some table keeps a rate."""
    check_setting(setting)
    if not isinstance(rate, Rate):
        raise BadRate("rate")
    found = least_rate(setting, fixed)
    return found is not None and found <= rate
