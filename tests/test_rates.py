import random
import unittest
from fractions import Fraction

from common import check_paper, is_integer, others, refuses, same, values
from flagfree.bars import Bars
from flagfree.coding import coded, paid
from flagfree.errors import BadNumber, BadSetting, BadTable, Stuck, TooMany
from flagfree.menus import Menu
from flagfree.moves import Code, Put
from flagfree.prices import Prices, Rate
from flagfree.rates import Worst, bound, content_for, worst
from flagfree.rules import Table
from flagfree.settings import Setting
from flagfree.traps import judged
from oracles import come_by, endless, least_numbers, slow_end, slow_worst, texts
from samples import large_setting, mixed_settings, some_settings, some_tables

PLAIN = Code.plain("01")
FIVE = Setting(Bars("01", "111111"))
ONES = Table({"": PLAIN, "1": PLAIN, "11": PLAIN, "111": PLAIN, "1111": PLAIN, "11111": Put("0")})


def end_behind(setting, table, content):
    """The end behind what is sent for a content."""
    return slow_end(setting.start + coded(table, setting, content), setting.bars.words)


class WorstTest(unittest.TestCase):

    def check_right(self, setting, table, moves, come):
        found = worst(setting, table)
        self.assertIs(type(found), Worst)
        self.assertIs(type(found.rate), Rate)
        price, weight = found.rate.price, found.rate.weight
        self.assertEqual(Fraction(price, weight), slow_worst(setting, moves))
        self.assertTrue(same(found.numbers, least_numbers(setting, moves, come, price, weight)), str(setting))
        self.check_ring(setting, table, found, len(come))
        self.assertEqual(worst(setting.with_start(setting.start), Table(dict(reversed(table.moves)))), found)
        return found

    def check_ring(self, setting, table, found, many):
        begin, ring = found.begin, found.ring
        self.assertTrue(type(begin) is str and type(ring) is str and len(begin) <= many and 1 <= len(ring) <= many)
        self.assertEqual(end_behind(setting, table, begin), end_behind(setting, table, begin + ring))
        price = paid(table, setting, begin + ring) - paid(table, setting, begin)
        self.assertEqual(price * found.rate.weight, found.rate.price * setting.prices.weigh(ring))

    def check_table(self, setting, table):
        moves = dict(table.moves)
        come, stuck = come_by(setting, moves)
        if stuck is not None:
            refuses(self, Stuck(stuck), worst, setting, table)
            return 1
        first = endless(setting, moves, come)
        if first is not None:
            refuses(self, BadTable(first), worst, setting, table)
            return 2
        self.check_right(setting, table, moves, come)
        return 0

    def test_by_a_plain_search(self):
        draw = random.Random(51)
        many = [0, 0, 0]
        for setting in some_settings(200) + mixed_settings(200):
            for table in some_tables(draw, setting, 4):
                many[self.check_table(setting, table)] += 1
        self.assertGreater(min(many), 60)

    def test_all_contents_pay_at_most_so_much(self):
        draw = random.Random(53)
        for setting in mixed_settings(60):
            for table in some_tables(draw, setting, 2):
                if slow_worst(setting, dict(table.moves)) is None:
                    continue
                found = worst(setting, table)
                for content in texts(setting.bars.signs, 4):
                    most = found.rate.price * setting.prices.weigh(content) + found.numbers[setting.start]
                    self.assertLessEqual(found.rate.weight * paid(table, setting, content), most)

    def test_by_hand(self):
        found = worst(FIVE, ONES)
        self.assertTrue(same(found.numbers, {"1" * k: k for k in range(6)}))
        self.assertEqual((str(found.rate), found.begin, found.ring), ("6/5", "1", "11111"))
        eager = Table({"": PLAIN, "1": Put("0")})
        self.assertEqual((worst(FIVE, eager).rate, worst(FIVE, eager).numbers), (Rate(2), {"": 0, "1": 1}))
        self.assertEqual(worst(FIVE, Table({"": PLAIN, "1": Put("1"), "11": Put("0")})).rate, Rate(3))
        free = worst(Setting(Bars("01")), Table({"": PLAIN}))
        self.assertEqual((free.rate, free.numbers, free.begin), (Rate(1), {"": 0}, ""))

    def test_prices_and_weights(self):
        setting = FIVE.with_prices(Prices("01", {"0": 2, "1": 9}, {"0": 7, "1": 3}))
        eager = Table({"": PLAIN, "1": Put("0")})
        found = worst(setting, eager)
        self.assertEqual(found.rate, Rate(11, 3))
        self.assertEqual(found.numbers, {"": 0, "1": 6})
        dear = setting.with_prices(Prices("01", {"0": 9}, {"1": 9}))
        self.assertEqual(worst(dear, Table({"": PLAIN, "1": PLAIN, "11": Put("0")})).rate, Rate(9))

    def test_rings_that_come_late(self):
        code = Code({"0": "10", "1": "0"})
        setting = Setting(Bars("01", "00"), Menu("01", code, PLAIN, Put("1")))
        table = Table({"": PLAIN, "0": code})
        refuses(self, Stuck("0"), worst, setting, table)
        table = Table({"": PLAIN, "0": Put("1")})
        self.assertEqual(worst(setting, table).rate, Rate(2))
        self.check_ring(setting, table, worst(setting, table), 2)
        free = Setting(Bars("01", "111", "000"), None, None, "11")
        table = Table({"11": Put("0"), "0": Put("1"), "1": PLAIN})
        self.assertEqual(worst(free, table).rate, Rate(3))
        self.check_ring(free, table, worst(free, table), 3)

    def test_stuck_and_puts_for_ever(self):
        pair = Setting(Bars("01", "11"))
        for moves, end in (({}, ""), ({"": PLAIN}, "1"), ({"": PLAIN, "1": PLAIN}, "1"),
                           ({"": PLAIN, "1": Put("1")}, "1"), ({"": Code({"0": "1", "1": "0"})}, ""),
                           ({"": Put("2")}, ""), ({"": Put("1"), "1": PLAIN}, "1")):
            refuses(self, Stuck(end), worst, pair, Table(moves))
        both = Setting(Bars("01", "00", "11"))
        refuses(self, BadTable("0"), worst, both, Table({"": PLAIN, "0": Put("1"), "1": Put("0")}))
        refuses(self, BadTable(""), worst, both, Table({"": Put("0"), "0": Put("1"), "1": Put("0")}))
        moves = {"": PLAIN, "1": Put("1"), "11": Put("1"), "111": Put("0")}
        round_and_round = Setting(Bars("01", "1111", "10"), Menu("01", PLAIN, Put("0"), Put("1")))
        refuses(self, Stuck("111"), worst, round_and_round, Table(moves))
        zeros = Setting(Bars("01", "01", "11"))
        refuses(self, BadTable("0"), worst, zeros, Table({"": PLAIN, "0": Put("0"), "1": Put("0")}))
        refuses(self, BadTable(""), worst, Setting(Bars("01", "111")), Table({"": Put("0")}))

    def test_stuck_goes_ahead_of_puts_for_ever(self):
        both = Setting(Bars("01", "00", "11"))
        refuses(self, Stuck("1"), worst, both, Table({"": PLAIN, "0": Put("1")}))
        setting = Setting(Bars("012", "00", "11", "2"))
        refuses(self, Stuck("1"), worst, setting, Table({"": Put("0"), "0": Put("1"), "1": Put("2")}))

    def test_a_large_setting(self):
        setting = large_setting()
        ways = judged(setting).ways
        moves = {end: ways[end][0] for end in ways}
        table = Table(moves)
        come, stuck = come_by(setting, moves)
        self.assertTrue(stuck is None and len(setting.bars.ends) == 24)
        found = worst(setting, table)
        self.check_ring(setting, table, found, len(come))
        price, weight = found.rate.price, found.rate.weight
        self.assertEqual(found.numbers, least_numbers(setting, moves, come, price, weight))

    def test_errors_in_order(self):
        for value in others(lambda value: isinstance(value, Setting)):
            refuses(self, BadSetting("setting"), worst, value, 7)
            refuses(self, BadSetting("setting"), bound, value, 7, None)
            refuses(self, BadSetting("setting"), content_for, value, worst(FIVE, ONES), None)
        for value in others(lambda value: isinstance(value, Table)):
            refuses(self, BadTable("table"), worst, FIVE, value)
            refuses(self, BadTable("table"), bound, FIVE, value, None)
        for value in others(lambda value: is_integer(value) and value >= 0):
            refuses(self, BadNumber(value), bound, FIVE, ONES, value)
            refuses(self, Stuck(""), bound, FIVE, Table({}), value)
            refuses(self, BadTable(""), bound, FIVE, Table({"": Put("0")}), value)
            refuses(self, BadNumber(value), content_for, FIVE, worst(FIVE, ONES), value)

    def test_by_name(self):
        self.assertEqual(worst(table=ONES, setting=FIVE), worst(FIVE, ONES))
        self.assertEqual(bound(weight=6, table=ONES, setting=FIVE), 7)
        self.assertEqual(content_for(weight=6, found=worst(FIVE, ONES), setting=FIVE), "111111")


class BoundTest(unittest.TestCase):

    def test_by_hand(self):
        self.assertTrue(same([bound(FIVE, ONES, weight) for weight in range(8)], [0, 1, 2, 3, 4, 6, 7, 8]))
        there = FIVE.with_start("1111")
        self.assertTrue(same([bound(there, ONES, weight) for weight in range(4)], [0, 2, 3, 4]))
        self.assertTrue(same(bound(FIVE, ONES, 10 ** 29), 12 * 10 ** 28))
        self.assertTrue(same(bound(FIVE, ONES, 10 ** 30 - 1), 6 * (10 ** 30 - 1) // 5))

    def test_by_the_numbers(self):
        draw = random.Random(57)
        for setting in mixed_settings(80):
            for table in some_tables(draw, setting, 2):
                if slow_worst(setting, dict(table.moves)) is None:
                    continue
                found = worst(setting, table)
                for weight in (0, 1, 2, 7, 100, 10 ** 29 + 7):
                    most = Fraction(found.rate.price * weight + found.numbers[setting.start], found.rate.weight)
                    self.assertTrue(same(bound(setting, table, weight), int(most)))


class ContentForTest(unittest.TestCase):

    def test_by_hand(self):
        found = Worst(Rate(6, 5), {}, "1", "11111")
        for weight, content in ((0, "1"), (1, "1"), (2, "111111"), (6, "111111"), (7, "1" * 11), (11, "1" * 11),
                                (12, "1" * 16), (1996, "1" * 1996)):
            self.assertTrue(same(content_for(FIVE, found, weight), content))
        for weight in (1997, 2000, 2001, 10 ** 30 - 1):
            refuses(self, TooMany("signs", 2000), content_for, FIVE, found, weight)

    def test_just_so_long(self):
        found = Worst(Rate(1), {}, "", "0")
        self.assertEqual(content_for(FIVE, found, 2000), "0" * 2000)
        refuses(self, TooMany("signs", 2000), content_for, FIVE, found, 2001)
        self.assertEqual(content_for(FIVE, found, 0), "")

    def test_weights(self):
        setting = FIVE.with_prices(Prices("01", None, {"0": 9, "1": 2}))
        found = Worst(Rate(1), {}, "11", "01")
        for weight, times in ((0, 0), (4, 0), (5, 1), (15, 1), (16, 2), (26, 2), (27, 3)):
            self.assertEqual(content_for(setting, found, weight), "11" + "01" * times)

    def test_what_worst_tells(self):
        draw = random.Random(59)
        for setting in mixed_settings(80):
            for table in some_tables(draw, setting, 2):
                if slow_worst(setting, dict(table.moves)) is None:
                    continue
                found = worst(setting, table)
                for weight in (0, 1, 30):
                    content = content_for(setting, found, weight)
                    weighed = setting.prices.weigh(content)
                    self.assertGreaterEqual(weighed, weight)
                    self.assertLessEqual(paid(table, setting, content), bound(setting, table, weighed))
                    if content != found.begin:
                        self.assertLess(weighed - setting.prices.weigh(found.ring), weight)


class PaperTest(unittest.TestCase):

    def test_worst(self):
        check_paper(self, Worst, ("rate", "numbers", "begin", "ring"))
        self.assertEqual(Worst(1, {}, "", "1"), Worst(True, {}, "", "1"))
        for value in values():
            self.assertIs(worst(FIVE, ONES) == value, False)

    def test_numbers_belong_to_the_caller(self):
        worst(FIVE, ONES).numbers.clear()
        self.assertEqual(len(worst(FIVE, ONES).numbers), 6)


if __name__ == "__main__":
    unittest.main()
