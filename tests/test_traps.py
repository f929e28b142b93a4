import random
import unittest

from common import others, refuses, same, values
from flagfree.bars import Bars
from flagfree.errors import BadMove, BadSetting
from flagfree.menus import Menu
from flagfree.moves import Code, Put
from flagfree.prices import Prices
from flagfree.settings import Setting
from flagfree.traps import Open, Trap, judged, open_ends, rounds
from oracles import is_trap, slow_rounds, told_moves
from samples import some_fixed, some_settings

PLAIN = Code.plain("01")


class TrapsTest(unittest.TestCase):

    def check_ways(self, setting, fixed, found):
        """See that an Open is right, with just the ends that come."""
        ways = found.ways
        self.assertIs(type(ways), dict)
        come = [setting.start]
        for end in come:
            row = ways[end]
            self.assertIs(type(row), tuple)
            move, steps = row
            self.assertIs(type(steps), int)
            self.assertIn(move, told_moves(setting, fixed, end))
            behind = [outcome[2] for outcome in setting.outcomes(end, move)]
            self.assertNotIn(None, behind)
            if isinstance(move, Code):
                self.assertEqual(steps, 0)
            else:
                self.assertEqual(steps, ways[behind[0]][1] + 1)
            come.extend(one for one in dict.fromkeys(behind) if one not in come)
        self.assertEqual(set(ways), set(come))

    def check_setting(self, setting, fixed):
        lost = slow_rounds(setting, fixed)
        self.assertTrue(same(rounds(setting, fixed), lost), (str(setting), rounds(setting, fixed), lost))
        self.assertTrue(is_trap(setting, fixed, lost))
        is_open = tuple(end for end in setting.bars.ends if end not in lost)
        self.assertTrue(same(open_ends(setting, fixed), is_open))
        found = judged(setting, fixed)
        if setting.start in lost:
            self.assertIs(type(found), Trap)
            self.assertTrue(same(found.rounds, lost))
        else:
            self.assertIs(type(found), Open)
            self.check_ways(setting, fixed, found)
        self.assertEqual(judged(setting, fixed), found)
        return len(lost)

    def test_by_a_plain_search(self):
        many = [self.check_setting(setting, None) for setting in some_settings(250)]
        self.assertGreater(sum(1 for one in many if one), 40)

    def test_fixed_by_a_plain_search(self):
        draw = random.Random(17)
        many = [self.check_setting(setting, some_fixed(draw, setting)) for setting in some_settings(250)]
        self.assertGreater(sum(1 for one in many if one), 40)

    def test_plain_menus_by_a_plain_search(self):
        draw = random.Random(19)
        for setting in some_settings(120):
            plain = setting.with_menu(None)
            self.check_setting(plain, None)
            self.check_setting(plain, some_fixed(draw, plain))

    def test_rounds_by_hand(self):
        self.assertTrue(same(rounds(Setting(Bars("01", "110", "111"))), {"11": 1}))
        both = Setting(Bars("01", "00", "11"))
        self.assertTrue(same(rounds(both), {"": 2, "0": 1, "1": 1}))
        self.assertEqual(rounds(Setting(Bars("01", "111111"))), {})
        self.assertEqual(rounds(Setting(Bars("01", "0", "1"))), {"": 1})
        self.assertEqual(rounds(Setting(Bars("01"))), {})

    def test_more_rounds(self):
        found = rounds(Setting(Bars("01", "11111"), Menu("01", PLAIN)))
        self.assertEqual(found, {"": 5, "1": 4, "11": 3, "111": 2, "1111": 1})
        found = rounds(Setting(Bars("01", "001", "11", "000"), Menu("01", PLAIN)))
        self.assertEqual(found, {"": 2, "0": 2, "00": 1, "1": 1})

    def test_menus_without_codes_or_moves(self):
        bars = Bars("01", "11")
        for menu in (Menu("01"), Menu("01", Put("0")), Menu("01", Put("0"), Put("1"))):
            self.assertEqual(rounds(Setting(bars, menu)), {"": 1, "1": 1})
            self.assertEqual(judged(Setting(bars, menu)), Trap({"": 1, "1": 1}))
            self.assertEqual(open_ends(Setting(bars, menu)), ())
        self.assertEqual(rounds(Setting(bars, Menu("01", PLAIN))), {"": 2, "1": 1})

    def test_lost_though_no_word_is_completed(self):
        setting = Setting(Bars("01", "010", "011"), Menu("01", PLAIN, Put("0")))
        self.assertEqual(rounds(setting), {"01": 1, "0": 2, "": 3})
        turning = Setting(Bars("01", "00", "11"), start="0")
        self.assertEqual(judged(turning), Trap({"": 2, "0": 1, "1": 1}))

    def test_codes_of_several_signs(self):
        setting = Setting(Bars("01", "000"), Menu("01", Code({"0": "10", "1": "11"}), Code({"0": "00", "1": "1"})))
        self.assertEqual(judged(setting), Open({"": (setting.menu.moves[0], 0), "0": (setting.menu.moves[0], 0)}))

    def test_amid_a_word(self):
        passing = Setting(Bars("01", "110", "111"), Menu("01", Code({"0": "0", "1": "10"})))
        self.assertEqual(rounds(passing), {"11": 1, "1": 1})
        self.assertEqual(open_ends(passing), ("",))

    def test_steps(self):
        setting = Setting(Bars("01", "11", "101", "1001"))
        found = judged(setting.with_start("1"))
        self.assertTrue(same(found.ways,
                             {"1": (Put("0"), 3), "10": (Put("0"), 2), "100": (Put("0"), 1), "": (PLAIN, 0)}))

    def test_only_ends_that_come(self):
        setting = Setting(Bars("01", "11", "0000"), Menu("01", Code({"0": "10", "1": "01"}), Put("0")))
        code = setting.menu.moves[0]
        self.assertTrue(same(judged(setting).ways, {"": (code, 0), "0": (code, 0), "1": (Put("0"), 1)}))

    def test_fixed_by_hand(self):
        setting = Setting(Bars("01", "111"))
        self.assertEqual(rounds(setting, {"11": PLAIN}), {"11": 1})
        self.assertEqual(judged(setting, {"11": PLAIN}).ways, {"": (PLAIN, 0), "1": (Put("0"), 1)})
        self.assertEqual(rounds(setting, fixed={"11": Put("1")}), {"11": 1})
        self.assertEqual(rounds(setting, {"": Put("0")}), {"": 1, "11": 1, "1": 2})
        self.assertEqual(judged(setting, fixed={"": Put("1")}).ways[""], (Put("1"), 1))
        self.assertEqual(open_ends(setting=setting, fixed={}), setting.bars.ends)
        self.assertEqual(rounds(setting=setting, fixed=None), {})

    def test_fixed_is_not_changed(self):
        setting = Setting(Bars("01", "111"))
        fixed = {"1": Put("0")}
        found = judged(setting, fixed)
        self.assertEqual(fixed, {"1": Put("0")})
        fixed["1"] = PLAIN
        self.assertEqual(found.ways["1"], (Put("0"), 1))

    def test_dicts_belong_to_the_caller(self):
        setting = Setting(Bars("01", "00", "11"))
        rounds(setting).clear()
        judged(setting).rounds.clear()
        self.assertEqual(rounds(setting), {"": 2, "0": 1, "1": 1})
        self.assertEqual(judged(setting), Trap({"": 2, "0": 1, "1": 1}))

    def test_prices_play_no_part(self):
        setting = Setting(Bars("01", "00", "11"), None, Prices("01", {"0": 9}))
        self.assertEqual(rounds(setting), {"": 2, "0": 1, "1": 1})

    def test_bad_setting(self):
        for value in others(lambda value: isinstance(value, Setting)):
            for work in (rounds, open_ends, judged):
                refuses(self, BadSetting("setting"), work, value)
                refuses(self, BadSetting("setting"), work, value, 7)

    def test_bad_fixed(self):
        setting = Setting(Bars("01", "111"), Menu("01", PLAIN, Put("0")))
        for value in others(lambda value: value is None or value == {}):
            for work in (rounds, open_ends, judged):
                refuses(self, BadMove("fixed"), work, setting, value)
        for value in ({"111": PLAIN}, {"0": PLAIN}, {"1": PLAIN, "a": PLAIN}, {"1": None}, {"1": Put("1")},
                      {"1": "put 0"},
                      {"": PLAIN, "1": Code({"0": "1", "1": "0"})}, {1: PLAIN}, {None: PLAIN}, [("1", PLAIN)]):
            for work in (rounds, open_ends, judged):
                refuses(self, BadMove("fixed"), work, setting, fixed=value)


class PapersTest(unittest.TestCase):

    def test_values(self):
        for value in values():
            for paper in (Open(value), Open(ways=value)):
                self.assertTrue(same(paper.ways, value))
                self.assertIs(bool(paper), True)
            for paper in (Trap(value), Trap(rounds=value)):
                self.assertTrue(same(paper.rounds, value))
                self.assertIs(bool(paper), False)

    def test_equality(self):
        for one in values():
            self.assertIs(Open(one) == Trap(one), False)
            for other in values():
                self.assertIs(Open(one) == Open(other), one == other or one is other)
                self.assertIs(Trap(one) == Trap(other), one == other or one is other)
        self.assertIs(Trap({"": 1}) == Trap({"": True}), True)
        self.assertIs(Trap({"": 1}) != Trap({"": 2}), True)
        for value in values():
            self.assertIs(Trap({"q": 1}) == value, False)
            self.assertIs(Open({"q": 1}) == value, False)


if __name__ == "__main__":
    unittest.main()
