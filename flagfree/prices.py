"""Prices: what signs cost and weigh; rates: prices by weights."""

from math import gcd

from flagfree.cursor import Cursor, take_signs
from flagfree.errors import BadContent, BadNumber, BadPrice, BadRate, BadSent, BadSetting, BadSign, BadSigns, BadText
from flagfree.signs import exchanged, is_alphabet, is_exchange, is_integer, is_sign, is_text

DIGITS = "0123456789"
PRICE_DIGITS = "123456789"
MOST_PRICE = 9


def is_price(value):
    """Whether a value is an integer from 1 to 9."""
    return is_integer(value) and 1 <= value <= MOST_PRICE


def are_of_signs(told, signs):
    """Whether a value is None or a dict from signs of an alphabet."""
    if told is None:
        return True
    return isinstance(told, dict) and all([is_sign(key, signs) for key in told])


def filled(told, signs):
    """The dict from all signs to what is told for them, 1 where nothing is; raises BadPrice."""
    if told is None:
        return {sign: 1 for sign in signs}
    for value in told.values():
        if not is_price(value):
            raise BadPrice(value)
    return {sign: told.get(sign, 1) for sign in signs}


def summed(text, worth):
    """The sum of what the signs of a text are worth, each kind of sign counted at once."""
    return sum([worth[sign] * text.count(sign) for sign in worth])


def take_numbers(cursor, signs):
    """Take an integer from 1 to 9 for each sign of an alphabet."""
    numbers = {}
    for sign in signs:
        numbers[sign] = int(cursor.take(is_sign(cursor.peek(), PRICE_DIGITS)))
    return numbers


def take_prices(cursor, signs):
    """Take the prices, the stroke and the weights of an alphabet."""
    prices = take_numbers(cursor, signs)
    cursor.expect("/")
    return Prices(signs, prices, take_numbers(cursor, signs))


class Prices:
    """The price and the weight of each sign of an alphabet."""

    def __init__(self, signs, prices=None, weights=None):
        if not is_alphabet(signs):
            raise BadSigns(signs)
        if not are_of_signs(prices, signs):
            raise BadSetting("prices")
        if not are_of_signs(weights, signs):
            raise BadSetting("weights")
        self.signs = signs
        self._prices = filled(prices, signs)
        self._weights = filled(weights, signs)

    @classmethod
    def read(cls, text):
        """The Prices with this text."""
        cursor = Cursor(text)
        prices = take_prices(cursor, take_signs(cursor))
        cursor.finish()
        return prices

    def __str__(self):
        prices = [str(self._prices[sign]) for sign in self.signs]
        weights = [str(self._weights[sign]) for sign in self.signs]
        return " ".join([self.signs, ":", *prices, "/", *weights])

    def __eq__(self, other):
        return isinstance(other, Prices) and self._prices == other._prices and self._weights == other._weights

    def price_of(self, sign):
        """The price of a sign."""
        if not is_sign(sign, self.signs):
            raise BadSign(sign)
        return self._prices[sign]

    def weight_of(self, sign):
        """The weight of a sign."""
        if not is_sign(sign, self.signs):
            raise BadSign(sign)
        return self._weights[sign]

    def cost(self, text):
        """The sum of the prices of the signs of a text."""
        if not is_text(text, self.signs):
            raise BadSent(text)
        return summed(text, self._prices)

    def weigh(self, content):
        """The sum of the weights of the signs of a content."""
        if not is_text(content, self.signs):
            raise BadContent(content)
        return summed(content, self._weights)

    def worth(self, sign, text):
        """The price of a text, and the weight of the content sign that it is sent for, 0 where this is None."""
        return sum([self._prices[one] for one in text]), 0 if sign is None else self._weights[sign]

    def with_price(self, sign, price):
        """The prices with another price of a sign."""
        if not is_sign(sign, self.signs):
            raise BadSign(sign)
        return Prices(self.signs, {**self._prices, sign: price}, self._weights)

    def with_weight(self, sign, weight):
        """The prices with another weight of a sign."""
        if not is_sign(sign, self.signs):
            raise BadSign(sign)
        return Prices(self.signs, self._prices, {**self._weights, sign: weight})

    def changed(self, table):
        """The prices with each sign exchanged."""
        if not is_exchange(table, self.signs):
            raise BadSetting("table")
        prices = {exchanged(sign, table): self._prices[sign] for sign in self.signs}
        weights = {exchanged(sign, table): self._weights[sign] for sign in self.signs}
        return Prices(self.signs, prices, weights)

    def __mul__(self, n):
        if not is_integer(n) or n < 1:
            raise BadNumber(n)
        return Prices(self.signs, {sign: n * self._prices[sign] for sign in self.signs}, self._weights)

    def __rmul__(self, n):
        return self * n


def as_rate(other):
    """A Rate, or the Rate of an integer from 0, on either side of a sign."""
    if isinstance(other, Rate):
        return other
    if not is_integer(other) or other < 0:
        raise BadRate("other")
    return Rate(other)


def less(one, other):
    """The first of two rates less the second one."""
    price = one.price * other.weight - other.price * one.weight
    if price < 0:
        raise BadRate("less")
    return Rate(price, one.weight * other.weight)


class Rate:
    """A price by a weight, in lowest terms."""

    def __init__(self, price, weight=1):
        if not is_integer(price) or price < 0:
            raise BadRate("price")
        if not is_integer(weight) or weight < 1:
            raise BadRate("weight")
        shared = gcd(price, weight)
        self.price = price // shared
        self.weight = weight // shared

    @classmethod
    def read(cls, text):
        """The Rate with this text."""
        if not isinstance(text, str):
            raise BadText(0, 0)
        price, stroke, weight = text.partition("/")
        if stroke == "":
            weight = "1"
        if not is_text(price + weight, DIGITS) or price == "" or weight.strip("0") == "":
            raise BadText(0, 0)
        rate = Rate(int(price), int(weight))
        if str(rate) != text:
            raise BadText(0, 0)
        return rate

    def __str__(self):
        if self.weight == 1:
            return str(self.price)
        return f"{self.price}/{self.weight}"

    def __bool__(self):
        return bool(self.price > 0)

    def __eq__(self, other):
        return isinstance(other, Rate) and self.price == other.price and self.weight == other.weight

    def __lt__(self, other):
        rate = as_rate(other)
        return self.price * rate.weight < rate.price * self.weight

    def __le__(self, other):
        rate = as_rate(other)
        return self.price * rate.weight <= rate.price * self.weight

    def __gt__(self, other):
        rate = as_rate(other)
        return self.price * rate.weight > rate.price * self.weight

    def __ge__(self, other):
        rate = as_rate(other)
        return self.price * rate.weight >= rate.price * self.weight

    def __add__(self, other):
        rate = as_rate(other)
        return Rate(self.price * rate.weight + rate.price * self.weight, self.weight * rate.weight)

    def __radd__(self, other):
        return self + other

    def __sub__(self, other):
        return less(self, as_rate(other))

    def __rsub__(self, other):
        return less(as_rate(other), self)

    def __mul__(self, other):
        rate = as_rate(other)
        return Rate(self.price * rate.price, self.weight * rate.weight)

    def __rmul__(self, other):
        return self * other

    def __floordiv__(self, n):
        if not is_integer(n) or n < 0:
            raise BadNumber(n)
        return self.price * n // self.weight
