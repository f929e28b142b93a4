"""Flags: which words to bar, and which prices and weights a rate bears."""

from flagfree.bars import MOST_SIGNS, Bars
from flagfree.best import chosen_of
from flagfree.errors import BadBars, BadNumber, BadSign, BadWord, NoWay, TooMany
from flagfree.least import least_rate
from flagfree.prices import MOST_PRICE
from flagfree.settings import check_setting
from flagfree.signs import is_integer, is_sign, is_word

MOST_WORDS = 6
MOST_FLAGS = 64


class Chosen:
    """A paper: words that were chosen, and the least rate that they have."""

    def __init__(self, words, rate):
        self.words = words
        self.rate = rate

    def __eq__(self, other):
        return isinstance(other, Chosen) and self.words == other.words and self.rate == other.rate


def ascending(words):
    """Some words, ascending, each one once."""
    unlike = {word: True for word in words}
    return tuple(sorted([str(word) for word in unlike]))


def rate_with(setting, bars):
    """The rate of a setting with other bars, from the longest ending of its start that is an end of them."""
    start = setting.start
    while start not in bars.ends:
        start = start[1:]
    return least_rate(setting.with_start("").with_bars(bars).with_start(start))


def lowers(rate, best):
    """Whether a rate is less than another one; None is greater than all others."""
    return rate is not None and (best is None or rate < best)


def check_words(setting, words):
    """See that these are a Setting, and a list or tuple of words of its alphabet."""
    check_setting(setting)
    if not isinstance(words, (list, tuple)):
        raise BadBars("words")
    for word in words:
        if not is_word(word, setting.bars.signs, MOST_SIGNS):
            raise BadWord(word)


def needless(setting):
    """The words without which, each taken out alone, the rate stays the same."""
    rate = least_rate(setting)
    bars = setting.bars
    return tuple([word for word in bars.words if rate_with(setting, bars - Bars(bars.signs, word)) == rate])


def without_needless(setting):
    """The Bars that are left when each word is taken out, one after another, without which the rate stays the same."""
    rate = least_rate(setting)
    left = setting.bars
    for word in setting.bars.words:
        fewer = left - Bars(left.signs, word)
        if rate_with(setting, fewer) == rate:
            left = fewer
    return left


def can_join(setting, words):
    """Those of some words that are not barred and can be barred, each alone, at the same rate."""
    check_words(setting, words)
    bars = setting.bars
    joined = {word: Bars(bars.signs, *bars.words, word) for word in words if word not in bars}
    rate = least_rate(setting)
    return ascending([word for word in joined if rate_with(setting, joined[word]) == rate])


def rate_by_starts(setting):
    """The dict from all ends to the rates from there."""
    check_setting(setting)
    return {end: least_rate(setting.with_start(end)) for end in setting.bars.ends}


def cheapest(setting, words, many):
    """The Chosen of so many of some words that have the least rate, barred in the place of the setting's own words."""
    check_words(setting, words)
    unlike = ascending(words)
    if len(unlike) > MOST_WORDS:
        raise TooMany("words", MOST_WORDS)
    if not is_integer(many) or many < 1 or many > len(unlike):
        raise BadNumber(many)
    signs = setting.bars.signs
    # All together they may have too many ends although no so many of them have, and the other way round.
    Bars(signs, *unlike)
    rows = chosen_of(unlike, many)
    tried = [Bars(signs, *row) for row in rows]
    best = None
    found = rows[0]
    for chosen, bars in zip(rows, tried):
        rate = rate_with(setting, bars)
        if lowers(rate, best):
            best = rate
            found = chosen
    return Chosen(tuple(found), best)


def all_words(signs, letters):
    """All words of so many signs, ascending; raises TooMany if there are too many."""
    words = [""]
    for _ in range(letters):
        words = [word + sign for word in words for sign in signs]
        if len(words) > MOST_FLAGS:
            raise TooMany("flags", MOST_FLAGS)
    return words


def flags_of(setting, letters):
    """The Chosen of all words of so many signs that have the least rate, each barred alone."""
    check_setting(setting)
    if not is_integer(letters) or letters < 1 or letters > MOST_SIGNS:
        raise BadNumber(letters)
    signs = setting.bars.signs
    best = None
    found = []
    for word in all_words(signs, letters):
        rate = rate_with(setting, Bars(signs, word))
        if lowers(rate, best):
            best = rate
            found = [word]
        elif rate is not None and rate == best:
            found.append(word)
    return Chosen(tuple(found), best)


def rate_of_sign(setting, sign):
    """The rate of a setting; raises BadSign, NoWay as price_range and weight_range do."""
    check_setting(setting)
    if not is_sign(sign, setting.bars.signs):
        raise BadSign(sign)
    rate = least_rate(setting)
    if rate is None:
        raise NoWay(setting.start)
    return rate


def range_around(number, fits):
    """The pair of the least and the greatest price or weight around one for which it fits, with all between."""
    low = number
    while low > 1 and fits(low - 1):
        low = low - 1
    high = number
    while high < MOST_PRICE and fits(high + 1):
        high = high + 1
    return low, high


def price_range(setting, sign):
    """The least and the greatest price of a sign with which the rate is as it is."""
    rate = rate_of_sign(setting, sign)
    prices = setting.prices
    return range_around(prices.price_of(sign), lambda price: least_rate(
        setting.with_prices(prices.with_price(sign, price))) == rate)


def weight_range(setting, sign):
    """The least and the greatest weight of a sign with which the rate is as it is."""
    rate = rate_of_sign(setting, sign)
    prices = setting.prices
    return range_around(prices.weight_of(sign), lambda weight: least_rate(
        setting.with_prices(prices.with_weight(sign, weight))) == rate)
