"""The game of tables against contents: at which ends some table keeps to a rate, and how contents force it.

Rows are a dict from ends to lists of pairs (move, outcomes), for the moves among which a table may choose there;
outcomes are a list of (sign, price, weight, end behind), and lead to ends of the rows again.
"""

from flagfree.prices import Rate
from flagfree.settings import told_outcomes
from flagfree.traps import is_losing


def outcomes_of(setting, end, move):
    """The outcomes (sign, price, weight, end behind) of a move at an end; puts have no sign and weigh nothing."""
    found = []
    for sign, text, behind in told_outcomes(setting.bars, end, move):
        price, weight = setting.prices.worth(sign, text)
        found.append((sign, price, weight, behind))
    return found


def safe_rows(setting, moves, lost):
    """The rows of the open ends, with those of the moves there that lead to open ends whatever the content."""
    rows = {}
    for end in moves:
        if end not in lost:
            safe = [move for move, ends in moves[end] if not is_losing(ends, lost)]
            rows[end] = [(move, outcomes_of(setting, end, move)) for move in safe]
    return rows


def rate_above(rows):
    """A rate above all that a table pays that comes to a code as soon as it can."""
    greatest = max([int(price) for end in rows for _, outcomes in rows[end] for _, price, _, _ in outcomes])
    return Rate(1 + len(rows) * greatest)


def costs_of(outcomes, rate, scale, edge):
    """The pairs (cost, end behind) of some outcomes at a rate: of each end behind the greatest cost."""
    costs = {}
    for _, price, weight, behind in outcomes:
        cost = scale * (rate.weight * price - rate.price * weight) + edge
        if behind not in costs or costs[behind] < cost:
            costs[behind] = cost
    return [(cost, behind) for behind, cost in costs.items()]


def priced_rows(told, rate, scale, edge):
    """The triples (move, outcomes, costs) of the rows of an end."""
    return [(move, outcomes, costs_of(outcomes, rate, scale, edge)) for move, outcomes in told]


def improved(rows, numbers, taken):
    """Take at each end the row that gives the least number, where it is less than the one there; whether some is."""
    better = False
    for end in rows:
        for row in rows[end]:
            number = 0
            for cost, behind in row[2]:
                if cost + numbers[behind] > number:
                    number = cost + numbers[behind]
            if number < numbers[end]:
                numbers[end] = number
                taken[end] = row
                better = True
    return better


def numbers_with(ends, taken, above):
    """The least numbers of some ends for the rows that are taken; one above all where none is."""
    numbers = {end: 0 if end in taken else above for end in ends}
    changed = True
    while changed:
        changed = False
        for end in taken:
            for cost, behind in taken[end][2]:
                if cost + numbers[behind] > numbers[end]:
                    numbers[end] = cost + numbers[behind]
                    changed = True
    return numbers


class Duel:
    """The game at a rate: the table wins from an end if no ring that a content can choose costs more than 0.

    All costs are scaled and moved by an edge, so that no ring costs just 0: with the edge 1 the table wins if it pays
    less than the rate, with the edge -1 if it pays at most the rate.
    """

    def __init__(self, rows, rate, edge):
        self.scale = len(rows) + 1
        self.edge = edge
        self.rows = {end: priced_rows(rows[end], rate, self.scale, edge) for end in rows}
        greatest = max([int(abs(cost)) for end in rows for row in self.rows[end] for cost, _ in row[2]])
        # Where the table wins, a number adds up costs of unlike ends, so it is at most this; all others are far above.
        self.most = len(rows) * greatest
        self.above = 2 * self.most + 3 * greatest

    def solve(self, fixed):
        """The numbers of all ends, and the rows that are taken; fixed tells the only row there is at some ends."""
        rows = {**self.rows, **fixed}
        numbers = {end: self.above for end in rows}
        taken = {}
        while improved(rows, numbers, taken):
            numbers = numbers_with(list(rows), taken, self.above)
        return numbers, taken

    def answers(self, numbers, end):
        """For each row of an end the pair (cost, end behind) with which the content answers it, the costs unscaled."""
        found = []
        for _, _, costs in self.rows[end]:
            best, told = costs[0]
            for cost, behind in costs:
                if cost + numbers[behind] > best + numbers[told]:
                    best, told = cost, behind
            found.append(((best - self.edge) // self.scale, told))
        return found

    def forced(self, numbers):
        """The numbers by which the content forces the rate, from the ends at which the table does not win."""
        ends = [end for end in self.rows if numbers[end] > self.most]
        answers = {end: self.answers(numbers, end) for end in ends}
        found = {end: 0 for end in ends}
        changed = True
        while changed:
            changed = False
            for end in ends:
                for cost, behind in answers[end]:
                    if cost + found[behind] < found[end]:
                        found[end] = cost + found[behind]
                        changed = True
        lowest = min([int(number) for number in found.values()])
        return {end: found[end] - lowest for end in ends}


def won_rows(rows, rate):
    """The rows that a table which keeps a rate can take, at the ends from which some table keeps it."""
    duel = Duel(rows, rate, -1)
    numbers, _ = duel.solve({})
    won = {end: True for end in rows if numbers[end] <= duel.most}
    found = {}
    for end in won:
        found[end] = [(move, outcomes) for move, outcomes in rows[end]
                      if all([behind in won for _, _, _, behind in outcomes])]
    return found


def moves_from(start, taken):
    """The outcomes and the moves of the rows taken at the ends that come from a start on: two dicts."""
    graph = {}
    moves = {}
    ahead = [start]
    while len(ahead) > 0:
        end = ahead.pop()
        if end not in graph:
            move, outcomes, _ = taken[end]
            graph[end] = outcomes
            moves[end] = move
            ahead.extend([behind for _, _, _, behind in outcomes])
    return graph, moves
