"""Certificates of the rate that a table pays, looked at without a search."""

from flagfree.coding import steps
from flagfree.errors import Stuck, TooMany
from flagfree.games import outcomes_of
from flagfree.prices import Rate
from flagfree.rates import Worst, check_table
from flagfree.signs import is_integer, is_text


def are_numbers(setting, numbers):
    """Whether a value is a dict from some ends, the start among them, to integers from 0."""
    if not isinstance(numbers, dict) or setting.start not in numbers:
        return False
    return all([end in setting.bars.ends and is_integer(numbers[end]) and numbers[end] >= 0 for end in numbers])


def keeps_at(setting, end, move, rate, numbers):
    """Whether all outcomes of a move at an end lead to ends with numbers, and its own number keeps a rate."""
    for _, price, weight, behind in outcomes_of(setting, end, move):
        if behind is None or behind not in numbers:
            return False
        if numbers[end] < rate.weight * price - rate.price * weight + numbers[behind]:
            return False
    return True


def shows_numbers(setting, table, rate, numbers):
    """Whether these are a Rate, and numbers that keep it for a table."""
    check_table(setting, table)
    if not isinstance(rate, Rate) or not are_numbers(setting, numbers):
        return False
    if not all([end in table and table[end] in setting.menu for end in numbers]):
        return False
    return all([keeps_at(setting, end, table[end], rate, numbers) for end in numbers])


def sent_for(setting, table, content):
    """The steps of a table for a content, None if it cannot send it."""
    try:
        return list(steps(table, setting, content))
    except (Stuck, TooMany):
        return None


def behind_all(setting, told):
    """The end behind what some steps sent from the start on."""
    return setting.bars.behind(setting.start, "".join([step.text for step in told]))


def ring_at(told, many):
    """The index of the first step behind the word of so many content signs."""
    at = 0
    while many > 0:
        if told[at].sign is not None:
            many = many - 1
        at = at + 1
    return at


def shows_ring(setting, table, rate, begin, ring):
    """Whether these are a Rate, and contents that come back to where they were at just this rate."""
    check_table(setting, table)
    signs = setting.bars.signs
    if not isinstance(rate, Rate) or not is_text(begin, signs) or not is_text(ring, signs) or ring == "":
        return False
    told = sent_for(setting, table, begin + ring)
    if told is None:
        return False
    at = ring_at(told, len(begin))
    if behind_all(setting, told[:at]) != behind_all(setting, told):
        return False
    price = sum([step.price for step in told[at:]])
    return price * rate.weight == rate.price * setting.prices.weigh(ring)


def shows_worst(setting, table, value):
    """Whether a value is a Worst whose numbers and whose ring both show its rate."""
    check_table(setting, table)
    if not isinstance(value, Worst):
        return False
    return (shows_numbers(setting, table, value.rate, value.numbers)
            and shows_ring(setting, table, value.rate, value.begin, value.ring))
