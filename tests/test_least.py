import random
import unittest
from fractions import Fraction

from common import check_paper, others, refuses, same, values
from flagfree.bars import Bars
from flagfree.errors import BadMove, BadRate, BadSetting
from flagfree.least import Least, can_keep, least, least_rate
from flagfree.menus import Menu
from flagfree.moves import Code, Put
from flagfree.prices import Prices, Rate
from flagfree.rules import Table
from flagfree.settings import Setting
from flagfree.traps import Trap, judged
from oracles import few_tables, forces, keeps, slow_least, slow_rounds, told_moves
from samples import large_setting, mixed_settings, some_fixed, some_settings

PLAIN = Code.plain("01")
ONES = Setting(Bars("01", "111111"))
BOTH = Setting(Bars("01", "00", "11"))


class LeastTest(unittest.TestCase):

    def check_certificates(self, setting, fixed, found):
        self.assertIs(type(found), Least)
        self.assertTrue(type(found.rate) is Rate and type(found.table) is Table and bool(found))
        price, weight = found.rate.price, found.rate.weight
        self.assertTrue(keeps(setting, price, weight, found.table, found.numbers, fixed), str(setting))
        self.assertTrue(forces(setting, price, weight, found.against, found.rounds, fixed), str(setting))
        for number in list(found.numbers.values()) + list(found.against.values()):
            self.assertLess(number, 10 ** 9)
        for end, move in found.table.moves:
            self.assertIn(end, setting.bars.ends)
            self.assertIn(move, told_moves(setting, fixed, end))

    def check_setting(self, setting, fixed):
        found = least(setting, fixed)
        if setting.start in slow_rounds(setting, fixed):
            self.assertTrue(type(found) is Trap and same(found.rounds, slow_rounds(setting, fixed)))
            self.assertEqual(found, judged(setting, fixed))
            self.assertIsNone(least_rate(setting, fixed))
            for rate in (Rate(0), Rate(1), Rate(10 ** 29)):
                self.assertIs(can_keep(setting, rate, fixed), False)
            return 1
        self.check_certificates(setting, fixed, found)
        self.assertTrue(same(least_rate(setting, fixed), found.rate))
        rate = found.rate
        for other, right in ((rate, True), (rate + Rate(1, 10 ** 20), True), (rate - Rate(1, 10 ** 20), False),
                             (rate + 1, True), (Rate(rate.price, rate.weight + 1), False), (Rate(0), False)):
            self.assertIs(can_keep(setting, other, fixed), right)
        if few_tables(setting, 300):
            self.assertEqual(Fraction(rate.price, rate.weight), slow_least(setting, fixed), str(setting))
            return 0
        return 2

    def check_settings(self, settings, draw):
        many = [0, 0, 0]
        for setting in settings:
            many[self.check_setting(setting, None)] += 1
            many[self.check_setting(setting, some_fixed(draw, setting))] += 1
        return many

    def test_by_a_plain_search(self):
        many = self.check_settings(some_settings(250), random.Random(79))
        self.assertGreater(min(many[:2]), 80)

    def test_mixed_by_a_plain_search(self):
        many = self.check_settings(mixed_settings(250), random.Random(83))
        self.assertGreater(min(many[:2]), 80)

    def test_plain_menus_by_a_plain_search(self):
        settings = [setting.with_menu(None) for setting in some_settings(150)]
        many = self.check_settings(settings, random.Random(89))
        self.assertGreater(min(many[:2]), 50)

    def test_by_hand(self):
        for words, rate in ((("111111",), "6/5"), (("11",), "2"), (("110", "111"), "2"), ((), "1"), (("111",), "3/2"),
                            (("11", "101"), "3"), (("11", "101", "1001"), "4"), (("0011", "00101"), "2")):
            self.assertEqual(str(least_rate(Setting(Bars("01", *words)))), rate)
        self.assertEqual(least(ONES).rate, Rate(6, 5))
        self.assertEqual(least(BOTH), Trap({"": 2, "0": 1, "1": 1}))
        self.assertIsNone(least_rate(BOTH))

    def test_unlike_rates_by_starts(self):
        unlike = Setting(Bars("01", "0011", "00101"))
        self.assertEqual([str(least_rate(unlike.with_start(end))) for end in ("", "00")], ["2", "3"])
        for end in unlike.bars.ends:
            self.check_setting(unlike.with_start(end), None)

    def test_two_puts_in_a_row(self):
        setting = Setting(Bars("01", "11", "101"))
        found = least(setting)
        self.assertEqual((found.rate, found.table["1"], found.table["10"]), (Rate(3), Put("0"), Put("0")))

    def test_late_is_not_always_best(self):
        late = Setting(Bars("01", "110", "111"))
        self.assertEqual(least_rate(late), Rate(2))
        self.assertIn("", least(late).table)

    def test_prices_and_weights(self):
        for prices, weights, rate in (({"0": 9}, {}, "9"), ({"1": 9}, {}, "46/5"), ({}, {"0": 9, "1": 9}, "2/15"),
                                      ({"0": 3, "1": 2}, {"0": 5}, "13/5"), ({}, {"0": 9}, "6/5")):
            setting = ONES.with_prices(Prices("01", prices, weights))
            self.assertEqual(str(least_rate(setting)), rate)

    def test_several_codes(self):
        swap = Code({"0": "1", "1": "0"})
        setting = Setting(Bars("01", "11"), Menu("01", PLAIN, swap, Put("0")), Prices("01", {}, {"0": 1, "1": 2}))
        self.assertEqual(least_rate(setting), Rate(1))
        self.assertEqual(least(setting).table[""], PLAIN)
        setting = setting.with_prices(Prices("01", {}, {"0": 2, "1": 1}))
        self.assertEqual((least_rate(setting), least(setting).table[""]), (Rate(1), swap))

    def test_fixed_by_hand(self):
        for fixed, rate in (({"111": Put("0")}, "4/3"), ({"": Put("1")}, "2"), ({"11111": PLAIN}, "5/4"), ({}, "6/5"),
                            ({"11111": Put("0")}, "6/5"), ({"1": Put("0")}, "2"), ({"": Put("0")}, None)):
            found = least_rate(ONES, fixed)
            self.assertEqual(None if found is None else str(found), rate)
            self.assertEqual(least_rate(setting=ONES, fixed=fixed), found)
            self.check_setting(ONES, fixed)

    def test_a_large_setting(self):
        setting = large_setting()
        self.assertEqual(len(setting.bars.ends), 24)
        for end in setting.bars.ends:
            self.check_certificates(setting.with_start(end), None, least(setting.with_start(end)))
        fixed = {"": setting.menu.moves[-1], "1": setting.menu.moves[3]}
        self.check_certificates(setting, fixed, least(setting, fixed))

    def test_the_same_again(self):
        for setting in mixed_settings(40):
            fixed = some_fixed(random.Random(1), setting)
            turned = dict(reversed(list(fixed.items())))
            self.assertEqual(least(setting, fixed), least(Setting.read(str(setting)), turned))

    def test_dicts_belong_to_the_caller(self):
        found = least(BOTH)
        found.rounds.clear()
        self.assertEqual(least(BOTH).rounds, {"": 2, "0": 1, "1": 1})
        one = least(ONES)
        one.numbers.clear()
        one.against.clear()
        one.rounds[""] = 1
        self.check_certificates(ONES, None, least(ONES))

    def test_fixed_is_not_changed(self):
        fixed = {"111": Put("0")}
        least(ONES, fixed)
        self.assertEqual(fixed, {"111": Put("0")})


class CanKeepTest(unittest.TestCase):

    def test_great_numbers(self):
        for rate, right in ((Rate(10 ** 30 - 1, 10 ** 29), True), (Rate(12 * 10 ** 28, 10 ** 29), True),
                            (Rate(12 * 10 ** 28 - 1, 10 ** 29), False), (Rate(1, 10 ** 29), False)):
            self.assertIs(can_keep(ONES, rate), right)

    def test_by_name(self):
        self.assertIs(can_keep(rate=Rate(4, 3), setting=ONES, fixed={"111": Put("0")}), True)
        self.assertIs(can_keep(ONES, Rate(6, 5), {"111": Put("0")}), False)


class ErrorsTest(unittest.TestCase):

    def test_errors_in_order(self):
        for value in others(lambda value: isinstance(value, Setting)):
            for work in (least, least_rate):
                refuses(self, BadSetting("setting"), work, value)
                refuses(self, BadSetting("setting"), work, value, 7)
            refuses(self, BadSetting("setting"), can_keep, value, 7, 7)
        for value in others(lambda value: isinstance(value, Rate)):
            refuses(self, BadRate("rate"), can_keep, ONES, value, 7)
            refuses(self, BadRate("rate"), can_keep, BOTH, value)
        for value in others(lambda value: value is None or value == {}):
            for work in (least, least_rate):
                refuses(self, BadMove("fixed"), work, ONES, value)
                refuses(self, BadMove("fixed"), work, BOTH, fixed=value)
            refuses(self, BadMove("fixed"), can_keep, ONES, Rate(1), value)
        for value in ({"0": PLAIN}, {"1": Put("2")}, {"1": None}, {"1": Code({"0": "1", "1": "0"})}):
            refuses(self, BadMove("fixed"), least, ONES, value)
            refuses(self, BadMove("fixed"), can_keep, ONES, Rate(1), value)


class PaperTest(unittest.TestCase):

    def test_least(self):
        check_paper(self, Least, ("rate", "table", "numbers", "against", "rounds"))
        for value in values():
            self.assertIs(least(ONES) == value, False)


if __name__ == "__main__":
    unittest.main()
