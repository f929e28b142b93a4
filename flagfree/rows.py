"""Rows: the least prices for n signs of content from all ends, made from the row of n - 1."""

from flagfree.games import outcomes_of
from flagfree.moves import Put
from flagfree.settings import told_outcomes


def ends_that_come(setting):
    """The start and all ends to which outcomes of moves lead that complete no word, in the order in which they come."""
    come = [setting.start]
    at = 0
    while at < len(come):
        end = come[at]
        for move in setting.menu:
            for _, _, behind in told_outcomes(setting.bars, end, move):
                if behind is not None and behind not in come:
                    come.append(behind)
        at = at + 1
    return tuple(come)


def priced_outcomes(setting, end, move):
    """The outcomes (price, end behind) of a move at an end."""
    return [(price, behind) for _, price, _, behind in outcomes_of(setting, end, move)]


def dearest(outcomes, row):
    """The greatest price of outcomes with the numbers of a row behind them, None if one has no number."""
    most = 0
    for price, behind in outcomes:
        if behind not in row:
            return None
        if price + row[behind] > most:
            most = price + row[behind]
    return most


class Rows:
    """What rows are made of: at each end the moves that complete no word, with their outcomes (price, end behind)."""

    def __init__(self, setting):
        self.codes = {}
        self.puts = {}
        for end in setting.bars.ends:
            told = [(move, priced_outcomes(setting, end, move)) for move in setting.let(end)]
            self.codes[end] = [(move, outcomes) for move, outcomes in told if not isinstance(move, Put)]
            self.puts[end] = [(move, outcomes) for move, outcomes in told if isinstance(move, Put)]

    def empty_row(self):
        """The row of no signs."""
        return {end: 0 for end in self.codes}

    def onward(self, row):
        """The row of one sign more."""
        found = {}
        for end in self.codes:
            for _, outcomes in self.codes[end]:
                price = dearest(outcomes, row)
                if price is not None and (end not in found or price < found[end]):
                    found[end] = price
        while self._with_puts(found):
            pass
        return found

    def _with_puts(self, row):
        """Lower the prices of a row by one put more; whether some is lower."""
        lower = False
        for end in self.puts:
            for _, outcomes in self.puts[end]:
                price = dearest(outcomes, row)
                if price is not None and (end not in row or price < row[end]):
                    row[end] = price
                    lower = True
        return lower

    def all_to(self, many):
        """The list of the rows of 0 to so many signs."""
        rows = [self.empty_row()]
        while len(rows) <= many:
            rows.append(self.onward(rows[-1]))
        return rows

    def having(self, ahead, row, end):
        """The pairs (move, outcomes) of the moves that have the price of a row, ahead being that of a sign less."""
        if end not in row:
            return []
        codes = [told for told in self.codes[end] if dearest(told[1], ahead) == row[end]]
        puts = [told for told in self.puts[end] if dearest(told[1], row) == row[end]]
        return codes + puts
