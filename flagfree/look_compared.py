"""Certificates of how two tables compare, looked at without a search."""

from flagfree.compared import Behind, Never, excess_graph, pair_outcomes
from flagfree.rings import gone
from flagfree.signs import is_integer, is_text
from flagfree.turns import turns_at


def is_pair(value, ends):
    """Whether a value is a tuple of two of some ends."""
    return isinstance(value, tuple) and len(value) == 2 and value[0] in ends and value[1] in ends


def are_pair_numbers(setting, numbers):
    """Whether a value is a dict from some pairs of ends, that of the starts among them, to integers from 0."""
    if not isinstance(numbers, dict) or (setting.start, setting.start) not in numbers:
        return False
    return all([is_pair(pair, setting.bars.ends) and is_integer(numbers[pair]) and numbers[pair] >= 0
                for pair in numbers])


def row_is_kept(mine, others, pair, numbers):
    """Whether both tables go on from a pair of ends to pairs with numbers, and its own number keeps to the rows."""
    if mine is None or others is None:
        return False
    for _, excess, _, behind in pair_outcomes(mine, others):
        if behind not in numbers or numbers[pair] < excess + numbers[behind]:
            return False
    return True


def rows_are_kept(setting, one, other, numbers):
    """Whether numbers of pairs of ends keep to the rows of two tables; also those of pairs that never come."""
    mine = {end: turns_at(setting, one, end) for end in setting.bars.ends}
    others = {end: turns_at(setting, other, end) for end in setting.bars.ends}
    return all([row_is_kept(mine[pair[0]], others[pair[1]], pair, numbers) for pair in numbers])


def is_never(setting, one, other, graph, value):
    """Whether a Never is right."""
    start = (setting.start, setting.start)
    if not is_integer(value.excess) or not are_pair_numbers(setting, value.numbers):
        return False
    if value.excess != value.numbers[start] or not is_text(value.content, setting.bars.signs):
        return False
    excess, _ = gone(graph, start, value.content)
    return excess == value.excess and rows_are_kept(setting, one, other, value.numbers)


def is_behind(setting, graph, value):
    """Whether a Behind is right."""
    signs = setting.bars.signs
    if not is_text(value.begin, signs) or not is_text(value.ring, signs) or value.ring == "":
        return False
    _, pair = gone(graph, (setting.start, setting.start), value.begin)
    excess, behind = gone(graph, pair, value.ring)
    return behind == pair and excess > 0


def shows_compared(setting, one, other, value):
    """Whether a value is a Never or a Behind that shows how two tables compare."""
    graph = excess_graph(setting, one, other)
    if isinstance(value, Never):
        return is_never(setting, one, other, graph, value)
    return isinstance(value, Behind) and is_behind(setting, graph, value)
