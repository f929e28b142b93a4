"""Rates: the greatest one that a table pays in the long run, over all contents."""

from flagfree.errors import BadNumber, BadTable, TooMany
from flagfree.games import outcomes_of
from flagfree.rings import greatest_ring
from flagfree.rules import Table
from flagfree.settings import check_setting
from flagfree.signs import is_integer

MOST_SIGNS = 2000


class Worst:
    """A paper: the greatest rate of a table, the numbers that keep it, and contents that pay it."""

    def __init__(self, rate, numbers, begin, ring):
        self.rate = rate
        self.numbers = numbers
        self.begin = begin
        self.ring = ring

    def __eq__(self, other):
        return (isinstance(other, Worst) and self.rate == other.rate and self.numbers == other.numbers
                and self.begin == other.begin and self.ring == other.ring)


def check_table(setting, table):
    """See that these are a Setting and a Table."""
    check_setting(setting)
    if not isinstance(table, Table):
        raise BadTable("table")


def is_put(outcomes):
    """Whether these are the outcomes of a put."""
    return outcomes[0][0] is None


def code_end(graph, end):
    """The end at which a code comes behind puts, None if signs are put in for ever."""
    for _ in graph:
        if not is_put(graph[end]):
            return end
        end = graph[end][0][3]
    return None


def table_graph(setting, table):
    """The dict from the ends that come to the outcomes of the moves of a table there, in the order in which they come.

    Raises what worst raises.
    """
    check_table(setting, table)
    graph = {end: outcomes_of(setting, end, table[end]) for end in table.reached(setting)}
    for end in graph:
        if code_end(graph, end) is None:
            raise BadTable(end)
    return graph


def contents_to(graph, start):
    """The dict from all ends behind contents to a shortest content of each, in the order in which they are met."""
    contents = {start: ""}
    ends = [start]
    at = 0
    while at < len(ends):
        end = ends[at]
        for sign, _, _, behind in graph[code_end(graph, end)]:
            if behind not in contents:
                contents[behind] = contents[end] + sign
                ends.append(behind)
        at = at + 1
    return contents


def turned(ring, contents):
    """A ring that begins at the first end met of those to which words of it lead."""
    places = {ring[at][0]: at for at in range(len(ring)) if ring[at - 1][1][0] is not None}
    at = [places[end] for end in contents if end in places][0]
    return ring[at:] + ring[:at]


def worst(setting, table):
    """The Worst of a table: the greatest rate that it pays in the long run."""
    graph = table_graph(setting, table)
    contents = contents_to(graph, setting.start)
    rate, numbers, found = greatest_ring(graph)
    ring = turned(found, contents)
    content = "".join([outcome[0] for _, outcome in ring if outcome[0] is not None])
    return Worst(rate, numbers, contents[ring[0][0]], content)


def check_weight(weight):
    """See that this is an integer from 0."""
    if not is_integer(weight) or weight < 0:
        raise BadNumber(weight)


def bound(setting, table, weight):
    """The most that a table can pay for a content of this weight, as far as its numbers tell."""
    found = worst(setting, table)
    check_weight(weight)
    return (found.rate.price * weight + found.numbers[setting.start]) // found.rate.weight


def content_for(setting, found, weight):
    """The begin of a Worst, and its ring as often as it takes to weigh so much."""
    check_setting(setting)
    check_weight(weight)
    missing = weight - setting.prices.weigh(found.begin)
    times = 0
    if missing > 0:
        each = setting.prices.weigh(found.ring)
        times = (missing + each - 1) // each
    if len(found.begin) + times * len(found.ring) > MOST_SIGNS:
        raise TooMany("signs", MOST_SIGNS)
    return found.begin + times * found.ring
