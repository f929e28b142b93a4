"""Two tables of one setting compared: for which contents the one pays more than the other, and how much.

The graphs [rings.py] of this module have pairs of ends as nodes, and the excess of a turn as its price.
"""

from flagfree.errors import BadNumber, BadTable
from flagfree.prices import Rate
from flagfree.rates import contents_to, table_graph, turned
from flagfree.rings import graph_from, raised
from flagfree.rules import Table
from flagfree.settings import check_setting
from flagfree.signs import is_integer
from flagfree.turns import turns_of

MOST_SIGNS = 400


class Never:
    """A paper: the greatest excess over all contents, numbers that bound it, and the least content that has it."""

    def __init__(self, excess, numbers, content):
        self.excess = excess
        self.numbers = numbers
        self.content = content

    def __eq__(self, other):
        return (isinstance(other, Never) and self.excess == other.excess and self.numbers == other.numbers
                and self.content == other.content)


class Behind:
    """A false paper: contents by which the excess grows for ever."""

    def __init__(self, begin, ring):
        self.begin = begin
        self.ring = ring

    def __eq__(self, other):
        return isinstance(other, Behind) and self.begin == other.begin and self.ring == other.ring

    def __bool__(self):
        return False


def told_turns(setting, one, other):
    """The turns of both tables; raises what compared raises."""
    check_setting(setting)
    if not isinstance(one, Table):
        raise BadTable("one")
    if not isinstance(other, Table):
        raise BadTable("other")
    # What a table cannot send is told as worst tells it.
    table_graph(setting, one)
    table_graph(setting, other)
    return turns_of(setting, one), turns_of(setting, other)


def pair_outcomes(mine, others):
    """The outcomes (content sign, excess, 0, pair of ends behind) of a pair of ends, by the turns of both tables."""
    found = []
    for sign in mine:
        _, price, end = mine[sign]
        _, less, other_end = others[sign]
        found.append((sign, price - less, 0, (end, other_end)))
    return found


def excess_graph(setting, one, other):
    """The graph of the pairs of ends that come behind contents; raises what compared raises."""
    mine, others = told_turns(setting, one, other)
    start = (setting.start, setting.start)
    return graph_from(start, lambda pair: pair_outcomes(mine[pair[0]], others[pair[1]]), len(mine) * len(others))


def least_content(graph, start, numbers):
    """The least content, by length, then by signs, whose excess is the number of the start."""
    contents = {start: ""}
    pairs = [start]
    at = 0
    while numbers[pairs[at]] > 0:
        pair = pairs[at]
        for sign, excess, _, behind in graph[pair]:
            # Only where the row is just met nothing of the number of the start is lost.
            if behind not in contents and excess + numbers[behind] == numbers[pair]:
                contents[behind] = contents[pair] + sign
                pairs.append(behind)
        at = at + 1
    return contents[pairs[at]]


def compared(setting, one, other):
    """A Never with the greatest excess of one table over another one, or a Behind if the excess grows for ever."""
    graph = excess_graph(setting, one, other)
    start = (setting.start, setting.start)
    numbers, found = raised(graph, Rate(0))
    if len(found) == 0:
        return Never(numbers[start], numbers, least_content(graph, start, numbers))
    contents = contents_to(graph, start)
    ring = turned(found, contents)
    return Behind(contents[ring[0][0]], "".join([outcome[0] for _, outcome in ring]))


def greatest_rows(graph, many):
    """The list of the dicts from the pairs to the greatest excess of all contents of 0 to so many signs."""
    rows = [{pair: 0 for pair in graph}]
    while len(rows) <= many:
        row = rows[-1]
        rows.append({pair: max([int(excess + row[behind]) for _, excess, _, behind in graph[pair]]) for pair in graph})
    return rows


def greatest_excess(setting, one, other, n):
    """The greatest excess of all contents of n signs, and the least such content."""
    graph = excess_graph(setting, one, other)
    if not is_integer(n) or n < 0 or n > MOST_SIGNS:
        raise BadNumber(n)
    pair = (setting.start, setting.start)
    rows = greatest_rows(graph, n)
    content = ""
    for left in range(n - 1, -1, -1):
        fits = [(sign, behind) for sign, excess, _, behind in graph[pair]
                if excess + rows[left][behind] == rows[left + 1][pair]]
        content = content + fits[0][0]
        pair = fits[0][1]
    return rows[n][setting.start, setting.start], content


def first_unlike(setting, one, other, at):
    """The least content for which two tables do not send the same (text, price), by the index of what is compared.

    None if there is none. At each pair behind contents for which they do, the least one of these is enough to know.
    """
    mine, others = told_turns(setting, one, other)
    contents = {(setting.start, setting.start): ""}
    pairs = list(contents)
    k = 0
    while k < len(pairs):
        turns, other_turns = mine[pairs[k][0]], others[pairs[k][1]]
        for sign in turns:
            content = contents[pairs[k]] + sign
            if turns[sign][at] != other_turns[sign][at]:
                return content
            behind = (turns[sign][2], other_turns[sign][2])
            if behind not in contents:
                contents[behind] = content
                pairs.append(behind)
        k = k + 1
    return None


def same_price(setting, one, other):
    """None if two tables pay the same for all contents, otherwise the least content for which they do not."""
    return first_unlike(setting, one, other, 1)


def same_text(setting, one, other):
    """None if two tables send the same for all contents, otherwise the least content for which they do not."""
    return first_unlike(setting, one, other, 0)
