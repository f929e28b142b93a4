import itertools
import random
import unittest
from fractions import Fraction

from common import check_read, check_reads_strings_alone, is_integer, others, refuses, same, values
from flagfree.errors import (BadContent, BadNumber, BadPrice, BadRate, BadSent, BadSetting, BadSign, BadSigns,
                             BadText)
from flagfree.prices import Prices, Rate
from oracles import is_alphabet, is_text, prices_complete, prices_stands


def is_price(value):
    return is_integer(value) and 1 <= value <= 9


def is_prices(value):
    return value is None or isinstance(value, dict) and all(isinstance(key, str) and key in ("0", "1") for key in value)


class PricesTest(unittest.TestCase):

    def test_told_and_not_told(self):
        prices = Prices("012", {"2": 4, "0": 2}, {"1": 9})
        self.assertEqual(prices.signs, "012")
        self.assertTrue(same([prices.price_of(sign) for sign in "012"], [2, 1, 4]))
        self.assertTrue(same([prices.weight_of(sign) for sign in "012"], [1, 9, 1]))
        self.assertEqual(str(prices), "012 : 2 1 4 / 1 9 1")

    def test_nothing_told(self):
        for prices in (Prices("01"), Prices("01", None, None), Prices("01", {}, {}), Prices(weights=None, signs="01"),
                       Prices("01", {"0": 1}), Prices("01", None, {"1": 1, "0": 1})):
            self.assertEqual(str(prices), "01 : 1 1 / 1 1")
            self.assertEqual(prices, Prices("01"))

    def test_by_name(self):
        prices = Prices(signs="01", weights={"0": 3}, prices={"1": 2})
        self.assertEqual(str(prices), "01 : 1 2 / 3 1")
        self.assertEqual((prices.price_of(sign="1"), prices.weight_of(sign="0")), (2, 3))
        self.assertEqual((prices.cost(text="011"), prices.weigh(content="001")), (5, 7))
        self.assertEqual(str(prices.with_price(price=7, sign="0")), "01 : 7 2 / 3 1")
        self.assertEqual(str(prices.with_weight(weight=8, sign="1")), "01 : 1 2 / 3 8")
        self.assertEqual(prices.changed(table={"0": "1", "1": "0"}), Prices.read(text="01 : 2 1 / 1 3"))

    def test_later_changes_of_the_dicts(self):
        one, other = {"0": 2}, {"1": 3}
        prices = Prices("01", one, other)
        one["0"] = one["1"] = 7
        other.clear()
        self.assertEqual(str(prices), "01 : 2 1 / 1 3")
        self.assertEqual((prices.cost("01"), prices.weigh("01")), (3, 4))

    def test_bad_signs(self):
        for value in others(is_alphabet):
            refuses(self, BadSigns(value), Prices, value)
            refuses(self, BadSigns(value), Prices, value, 7, 7)

    def test_bad_dicts(self):
        for value in others(is_prices):
            refuses(self, BadSetting("prices"), Prices, "01", value)
            refuses(self, BadSetting("prices"), Prices, "01", value, 7)
            refuses(self, BadSetting("weights"), Prices, "01", None, value)
            refuses(self, BadSetting("weights"), Prices, "01", {"0": 0}, value)
        for value in ({"2": 1}, {"0": 1, "01": 1}, {"": 1}, {0: 1}, {"0": 1, None: 1}, [("0", 1)], {"0": 0, "2": 1}):
            refuses(self, BadSetting("prices"), Prices, "01", value)
            refuses(self, BadSetting("weights"), Prices, "01", {"1": 1}, value)

    def test_bad_prices(self):
        for value in others(is_price):
            refuses(self, BadPrice(value), Prices, "01", {"0": value})
            refuses(self, BadPrice(value), Prices, "01", {"1": 1, "0": value}, {"0": 0})
            refuses(self, BadPrice(value), Prices, "01", {"1": 1, "0": 9}, {"0": value})
        refuses(self, BadPrice(11), Prices, "012", {"2": 3, "1": 11, "0": 12})
        refuses(self, BadPrice(13), Prices, "012", {"0": 3}, {"2": 13, "1": 11})
        refuses(self, BadPrice(True), Prices, "01", {"0": True})
        refuses(self, BadPrice(10), Prices, "01", {"0": 10})
        for value in range(1, 10):
            self.assertEqual(str(Prices("01", {"0": value}, {"1": value})), f"01 : {value} 1 / 1 {value}")

    def test_bad_sign(self):
        prices = Prices("01", {"0": 2})
        for value in others(lambda value: value in ("0", "1")):
            refuses(self, BadSign(value), prices.price_of, value)
            refuses(self, BadSign(value), prices.weight_of, value)
            refuses(self, BadSign(value), prices.with_price, value, 0)
            refuses(self, BadSign(value), prices.with_weight, value, 0)
        refuses(self, BadSign("2"), prices.price_of, "2")
        refuses(self, BadSign("01"), prices.weight_of, "01")

    def test_sums(self):
        prices = Prices("012", {"0": 2, "1": 3, "2": 9}, {"0": 1, "1": 5, "2": 7})
        for row in itertools.product("012", repeat=4):
            text = "".join(row)
            self.assertTrue(same(prices.cost(text), sum({"0": 2, "1": 3, "2": 9}[sign] for sign in text)))
            self.assertTrue(same(prices.weigh(text), sum({"0": 1, "1": 5, "2": 7}[sign] for sign in text)))
        self.assertTrue(same((prices.cost(""), prices.weigh("")), (0, 0)))
        self.assertEqual(prices.cost("021" * 100000), 1400000)

    def test_bad_texts(self):
        prices = Prices("01")
        for value in others(lambda value: is_text(value, "01")):
            refuses(self, BadSent(value), prices.cost, value)
            refuses(self, BadContent(value), prices.weigh, value)
        refuses(self, BadSent("012"), prices.cost, "012")
        refuses(self, BadContent("0\n"), prices.weigh, "0\n")

    def test_with_another_one(self):
        prices = Prices("01", {"0": 2, "1": 3}, {"0": 4, "1": 5})
        self.assertEqual(str(prices.with_price("1", 9)), "01 : 2 9 / 4 5")
        self.assertEqual(str(prices.with_weight("0", 1)), "01 : 2 3 / 1 5")
        self.assertEqual(str(prices), "01 : 2 3 / 4 5")
        for value in others(is_price):
            refuses(self, BadPrice(value), prices.with_price, "0", value)
            refuses(self, BadPrice(value), prices.with_weight, "0", value)

    def test_times(self):
        prices = Prices("012", {"0": 2, "1": 3}, {"0": 9})
        for found in (prices * 3, 3 * prices):
            self.assertEqual(str(found), "012 : 6 9 3 / 9 1 1")
        self.assertEqual(1 * prices, prices)
        refuses(self, BadPrice(12), lambda: prices * 4)
        refuses(self, BadPrice(12), lambda: 4 * prices)
        refuses(self, BadPrice(10), lambda: Prices("012", {"2": 5, "1": 4}) * 2)
        refuses(self, BadPrice(18), lambda: Prices("012", {"2": 9, "1": 9}) * 2)
        refuses(self, BadPrice(10), lambda: Prices("01", {"0": 1, "1": 2}) * 10)
        big = 10 ** 30 - 1
        refuses(self, BadPrice(2 * big), lambda: Prices("01", {"0": 2, "1": 3}) * big)
        for value in others(lambda value: is_integer(value) and value >= 1):
            refuses(self, BadNumber(value), lambda: prices * value)

    def test_times_from_the_left(self):
        prices = Prices("01")
        for value in others(lambda value: is_integer(value) and value >= 1 or isinstance(value, (Prices, Rate))):
            refuses(self, BadNumber(value), lambda: value * prices)

    def test_times_in_place(self):
        prices = first = Prices("01", {"0": 2})
        prices *= 4
        self.assertEqual((str(prices), str(first)), ("01 : 8 4 / 1 1", "01 : 2 1 / 1 1"))

    def test_changed(self):
        prices = Prices("012", {"0": 2, "1": 3, "2": 4}, {"0": 5, "1": 6, "2": 7})
        self.assertEqual(str(prices.changed({"0": "1", "1": "2", "2": "0"})), "012 : 4 2 3 / 7 5 6")
        fits = ({"0": "1", "1": "0"}, {"0": "0", "1": "1"})
        for value in others(lambda value: value in fits):
            refuses(self, BadSetting("table"), Prices("01").changed, value)
        for value in ({"0": "1", "1": "1"}, {"0": "1"}, {"0": "1", "1": "0", "2": "2"}, {"0": "a", "1": "b"},
                      {"0": "01", "1": "0"}, {"0": 0, "1": 1}, {0: "0", 1: "1"}, {"0": ["1"], "1": "0"}):
            refuses(self, BadSetting("table"), Prices("01").changed, value)

    def test_equality(self):
        self.assertEqual(Prices("01", {"0": 2}), Prices("01", {"1": 1, "0": 2}, {"0": 1}))
        self.assertNotEqual(Prices("01", {"0": 2}), Prices("01", {"1": 2}))
        self.assertNotEqual(Prices("01", {"0": 2}), Prices("01", None, {"0": 2}))
        self.assertNotEqual(Prices("01", {"0": 2}, {"0": 3}), Prices("01", {"0": 2}, {"0": 4}))
        self.assertNotEqual(Prices("01"), Prices("012"))
        self.assertNotEqual(Prices("01"), Prices("ab"))
        for value in values():
            self.assertIs(Prices("01", {"0": 9}) == value, False)

    def test_read_back(self):
        draw = random.Random(2)
        for _ in range(100):
            signs = draw.choice(["01", "0az", "wxyz"])
            prices = Prices(signs, {sign: draw.randint(1, 9) for sign in signs}, {signs[0]: draw.randint(1, 9)})
            self.assertTrue(same(Prices.read(str(prices)), prices))

    def test_read_spoilt_texts(self):
        more = ["01", ":", "/", "0", "1", "9", "10", "-1", "01", "", "1\n", "a", "-", "012"]
        for text in ("01 : 1 9 / 2 1", "0az : 1 2 3 / 4 5 6"):
            check_read(self, Prices.read, text.split(" "), more, prices_stands, prices_complete)
        check_reads_strings_alone(self, Prices.read)

    def test_read_by_hand(self):
        for text, word in (("01 : 1 1 / 1", 6), ("01 : 1 1 / 1 1 1", 7), ("01 : 0 1 / 1 1", 2), ("01 : 1 10 / 1 1", 3),
                           ("01 : 1 / 1 1", 3), ("01 : 1 1 1 / 1 1", 4), ("01 : 1 1 / 1 0", 6), ("01 : 01 1 / 1 1", 2)):
            refuses(self, BadText(0, word), Prices.read, text)


RATES = [Rate(0), Rate(1), Rate(2), Rate(1, 2), Rate(2, 3), Rate(6, 5), Rate(5, 4), Rate(7, 3), Rate(10 ** 29, 7),
         Rate(10 ** 29 + 1, 7), Rate(10 ** 30 - 1, 10 ** 30 - 3)]


def part(value):
    """A Rate, or an integer, as a fraction."""
    return Fraction(value.price, value.weight) if isinstance(value, Rate) else Fraction(value)


class RateTest(unittest.TestCase):

    def check_rate(self, found, expected):
        self.assertIs(type(found), Rate)
        self.assertTrue(same((found.price, found.weight), (expected.numerator, expected.denominator)))

    def test_lowest_terms(self):
        for price in range(30):
            for weight in range(1, 30):
                self.check_rate(Rate(price, weight), Fraction(price, weight))
        rate = Rate(12 * 10 ** 28, 10 * 10 ** 28)
        self.assertEqual((rate.price, rate.weight), (6, 5))
        self.assertEqual((Rate(7).price, Rate(7).weight), (7, 1))
        self.assertEqual(Rate(weight=10, price=12), Rate(6, 5))

    def test_errors(self):
        for value in others(lambda value: is_integer(value) and value >= 0):
            refuses(self, BadRate("price"), Rate, value)
            refuses(self, BadRate("price"), Rate, value, 0)
        for value in others(lambda value: is_integer(value) and value >= 1):
            refuses(self, BadRate("weight"), Rate, 1, value)
        refuses(self, BadRate("weight"), Rate, 0, 0)
        refuses(self, BadRate("price"), Rate, -1, -1)

    def test_order(self):
        for one in RATES:
            for other in RATES + [0, 1, 2, 10 ** 30 - 1]:
                self.assertIs(one < other, part(one) < part(other))
                self.assertIs(one <= other, part(one) <= part(other))
                self.assertIs(one > other, part(one) > part(other))
                self.assertIs(one >= other, part(one) >= part(other))

    def test_order_with_integers_on_the_left(self):
        for one in (0, 1, 2, 10 ** 30 - 1):
            for other in RATES:
                self.assertIs(one < other, one < part(other))
                self.assertIs(one <= other, one <= part(other))
                self.assertIs(one > other, one > part(other))
                self.assertIs(one >= other, one >= part(other))

    def test_sums_and_products(self):
        for one in RATES:
            for other in RATES + [0, 1, 2, 10 ** 30 - 1]:
                self.check_rate(one + other, part(one) + part(other))
                self.check_rate(one * other, part(one) * part(other))
                if part(one) >= part(other):
                    self.check_rate(one - other, part(one) - part(other))
                else:
                    refuses(self, BadRate("less"), lambda: one - other)

    def test_with_integers_on_the_left(self):
        for one in (0, 1, 2, 10 ** 30 - 1):
            for other in RATES:
                self.check_rate(one + other, one + part(other))
                self.check_rate(one * other, one * part(other))
                if one >= part(other):
                    self.check_rate(one - other, one - part(other))
                else:
                    refuses(self, BadRate("less"), lambda: one - other)

    def test_bad_other(self):
        rate = Rate(6, 5)
        for value in others(lambda value: isinstance(value, Rate) or is_integer(value) and value >= 0):
            for work in (lambda: rate < value, lambda: rate <= value, lambda: rate > value, lambda: rate >= value,
                         lambda: rate + value, lambda: rate - value, lambda: rate * value):
                refuses(self, BadRate("other"), work)
        for value in (-1, -10 ** 29):
            for work in (lambda: value < rate, lambda: value <= rate, lambda: value > rate, lambda: value >= rate,
                         lambda: value + rate, lambda: value - rate, lambda: value * rate):
                refuses(self, BadRate("other"), work)

    def test_in_place(self):
        rate = first = Rate(6, 5)
        rate += 1
        self.assertEqual(rate, Rate(11, 5))
        rate -= Rate(1, 5)
        self.assertEqual(rate, Rate(2))
        rate *= Rate(1, 4)
        self.assertEqual(rate, Rate(1, 2))
        rate //= 7
        self.assertTrue(same(rate, 3))
        self.assertEqual(first, Rate(6, 5))

    def test_times_and_down(self):
        for rate in RATES:
            for n in (0, 1, 2, 6, 7, 100, 10 ** 30 - 1):
                self.assertTrue(same(rate // n, part(rate) * n // 1))
        for value in others(lambda value: is_integer(value) and value >= 0):
            refuses(self, BadNumber(value), lambda: Rate(6, 5) // value)
        refuses(self, BadNumber(Rate(1)), lambda: Rate(6, 5) // Rate(1))

    def test_truth(self):
        for rate in RATES:
            self.assertIs(bool(rate), part(rate) > 0)

    def test_equality(self):
        for one in RATES:
            for other in RATES:
                self.assertIs(one == other, part(one) == part(other))
        for value in values():
            self.assertIs(Rate(2) == value, False)
            self.assertIs(Rate(1) == value, False)
        self.assertIs(Rate(2, 4) == Rate(1, 2), True)

    def test_str_and_read(self):
        self.assertEqual([str(rate) for rate in RATES[:6]], ["0", "1", "2", "1/2", "2/3", "6/5"])
        for rate in RATES:
            self.assertTrue(same(Rate.read(str(rate)), rate))
        self.assertEqual(Rate.read(text="10/3"), Rate(10, 3))
        for text in ("", "/", "1/", "/1", "2/1", "12/10", "0/1", "0/5", "1/0", "01", "1/02", "+1", "-1", "1 ", " 1",
                     "1/2/3",
                     "1 /2", "a", "1.5", "1/2 ", "1/-2", "1_0", "1\n", "\n1", "6/5 6/5", "00", "0/0", "01/2", "1/1"):
            refuses(self, BadText(0, 0), Rate.read, text)
        for value in others(lambda value: value in ("0", "1", "2", "01", "10", "00", "011")):
            refuses(self, BadText(0, 0), Rate.read, value)

    def test_long_numbers(self):
        one, other = 10 ** 1500 + 7, 10 ** 1400 + 9
        rate = Rate(one, other)
        self.check_rate(rate, Fraction(one, other))
        self.assertEqual(Rate.read(str(rate)), rate)


if __name__ == "__main__":
    unittest.main()
