import random
import unittest

from common import near_dicts, others, refuses, values
from flagfree.bars import Bars
from flagfree.errors import BadMove, BadSetting
from flagfree.look_traps import shows_open, shows_trap
from flagfree.menus import Menu
from flagfree.moves import Code, Put
from flagfree.settings import Setting
from flagfree.traps import Open, Trap, judged, rounds
from oracles import is_trap, told_moves
from samples import some_fixed, some_settings

PLAIN = Code.plain("01")
OTHER = Code({"0": "1", "1": "0"})
ONES = Setting(Bars("01", "111"))
BOTH = Setting(Bars("01", "00", "11"))


def are_ways(setting, fixed, ways):
    """Whether a value is ways that show that a start is open, by the definition."""
    if type(ways) is not dict or setting.start not in ways:
        return False
    for end, row in ways.items():
        if end not in setting.bars.ends or type(row) is not tuple or len(row) != 2:
            return False
        if row[0] not in told_moves(setting, fixed, end) or type(row[1]) is not int:
            return False
        if any(behind not in ways for _, _, behind in setting.outcomes(end, row[0])):
            return False
    for end, (move, steps) in ways.items():
        if isinstance(move, Code):
            if steps != 0:
                return False
        elif steps < 1 or steps <= ways[setting.outcomes(end, move)[0][2]][1]:
            return False
    return True


def near_ways(setting, ways):
    """Ways near to some: with other moves, other steps, other forms."""
    moves = list(setting.menu.moves) + [Put("z"), Code({"a": "a"}), None, "put 0"]
    more = [(move, many) for move in moves for many in (-1, 0, 1, 2, 9, 10 ** 40, True, False, None, "1")]
    more += [None, (), (PLAIN,), [PLAIN, 0], (PLAIN, 0, 0), "", PLAIN]
    return near_dicts(ways, list(setting.bars.ends) + ["q", 7, None, ("",)], more)


class ShowsOpenTest(unittest.TestCase):

    def check_setting(self, setting, fixed, draw):
        found = judged(setting, fixed)
        if not found:
            self.assertIs(shows_open(setting, found, fixed), False)
            return [0, 0]
        self.assertIs(shows_open(setting, found, fixed), True)
        many = [1, 0]
        rows = near_ways(setting, found.ways)
        for ways in draw.sample(rows, min(len(rows), 60)):
            right = are_ways(setting, fixed, ways)
            self.assertIs(shows_open(setting, Open(ways), fixed), right, (str(setting), fixed, ways))
            many[right is False] += 1
        return many

    def test_by_the_definition(self):
        draw = random.Random(3)
        many = [0, 0]
        for setting in some_settings(150):
            for fixed in (None, some_fixed(draw, setting)):
                more = self.check_setting(setting, fixed, draw)
                many = [many[0] + more[0], many[1] + more[1]]
        self.assertGreater(min(many), 150)

    def test_by_hand(self):
        ways = {"": (PLAIN, 0), "1": (PLAIN, 0), "11": (Put("0"), 1)}
        self.assertIs(shows_open(ONES, Open(ways)), True)
        self.assertIs(shows_open(ONES.with_start("11"), Open(ways)), True)
        for end, row in (("", (PLAIN, 1)), ("", (PLAIN, False)), ("", (PLAIN,)), ("", [PLAIN, 0]), ("11", (PLAIN, 0)),
                         ("11", (Put("1"), 1)), ("11", (Put("0"), 0)), ("11", (Put("0"), True)), ("1", (OTHER, 0)),
                         ("0", (PLAIN, 0)), ("111", (Put("0"), 1)), ("1", None), ("", (PLAIN, 0, 0)),
                         (None, (PLAIN, 0))):
            self.assertIs(shows_open(ONES, Open({**ways, end: row})), False, (end, row))
        for end in ways:
            self.assertIs(shows_open(ONES, Open({one: ways[one] for one in ways if one != end})), False)
        self.assertIs(shows_open(ONES, Open({**ways, "11": (Put("0"), 10 ** 40)})), True)
        self.assertIs(shows_open(ONES, Open({"": (PLAIN, 0), "1": (Put("0"), 7)})), True)

    def test_more_ends_may_stand_in_it(self):
        ways = {"": (PLAIN, 0), "1": (Put("0"), 1)}
        self.assertIs(shows_open(ONES, Open(ways)), True)
        self.assertIs(shows_open(ONES, Open({**ways, "11": (Put("0"), 3)})), True)
        self.assertIs(shows_open(ONES, Open({**ways, "11": (PLAIN, 0)})), False)

    def test_puts_without_a_code(self):
        setting = Setting(Bars("01", "00", "11"))
        ways = {"": (Put("0"), 1), "0": (Put("1"), 2), "1": (Put("0"), 3)}
        self.assertIs(shows_open(setting, Open(ways)), False)
        ways = {"": (Put("0"), 3), "0": (Put("1"), 2), "1": (Put("0"), 1)}
        self.assertIs(shows_open(setting, Open(ways)), False)
        self.assertIs(shows_open(Setting(Bars("01")), Open({"": (Put("0"), 1)})), False)

    def test_steps_may_be_greater(self):
        setting = Setting(Bars("01", "11", "101", "1001"), start="1")
        right = {"1": (Put("0"), 3), "10": (Put("0"), 2), "100": (Put("0"), 1), "": (PLAIN, 0)}
        self.assertIs(shows_open(setting, Open(right)), True)
        self.assertIs(shows_open(setting, Open({**right, "": (Put("0"), 1)})), False)
        right = {"1": (Put("0"), 9), "10": (Put("0"), 5), "100": (Put("0"), 4), "": (PLAIN, 0)}
        for many in (9, 6, 10 ** 30):
            self.assertIs(shows_open(setting, Open({**right, "1": (Put("0"), many)})), True)
        for many in (5, 4, 0, -1):
            self.assertIs(shows_open(setting, Open({**right, "1": (Put("0"), many)})), False)

    def test_fixed(self):
        ways = {"": (PLAIN, 0), "1": (Put("0"), 1)}
        self.assertIs(shows_open(ONES, Open(ways), {"1": Put("0")}), True)
        self.assertIs(shows_open(ONES, Open(ways), fixed={"1": PLAIN}), False)
        self.assertIs(shows_open(ONES, Open(ways), {"11": PLAIN}), True)
        self.assertIs(shows_open(ONES, Open({"": (PLAIN, 0), "1": (PLAIN, 0), "11": (Put("0"), 1)}), {"1": Put("0")}),
                      False)
        self.assertIs(shows_open(setting=ONES, value=Open(ways), fixed={}), True)

    def test_the_menu_counts(self):
        small = ONES.with_menu(Menu("01", PLAIN, Put("1")))
        self.assertIs(shows_open(small, Open({"": (PLAIN, 0), "1": (Put("0"), 1)})), False)
        self.assertIs(shows_open(small, Open({"": (PLAIN, 0), "1": (PLAIN, 0), "11": (Put("1"), 1)})), False)

    def test_values(self):
        for value in values():
            self.assertIs(shows_open(ONES, value), False)
            self.assertIs(shows_open(ONES, Open(value)), False)
            self.assertIs(shows_open(ONES, Open({"": value})), False)
            self.assertIs(shows_open(ONES, Open({"": (value, 0)})), False)
            right = type(value) is int and value == 0
            self.assertIs(shows_open(ONES, Open({"": (PLAIN, value), "1": (Put("0"), 1)})), right)
        self.assertIs(shows_open(ONES, judged(ONES).ways), False)
        self.assertIs(shows_open(ONES, Trap(judged(ONES).ways)), False)


class ShowsTrapTest(unittest.TestCase):

    def check_setting(self, setting, fixed, draw):
        lost = rounds(setting, fixed)
        self.assertIs(shows_trap(setting, Trap(lost), fixed), setting.start in lost)
        many = [0, 0]
        rows = near_dicts(lost, list(setting.bars.ends) + ["q", 7, None, ("",)], [1, 2, 3, 0, -1, True, None, "1"])
        for near in draw.sample(rows, min(len(rows), 60)):
            right = is_trap(setting, fixed, near) and setting.start in near
            self.assertIs(shows_trap(setting, Trap(near), fixed), right, (str(setting), fixed, near))
            many[right is False] += 1
        return many

    def test_by_the_definition(self):
        draw = random.Random(4)
        many = [0, 0]
        for setting in some_settings(150):
            for fixed in (None, some_fixed(draw, setting)):
                more = self.check_setting(setting, fixed, draw)
                many = [many[0] + more[0], many[1] + more[1]]
        self.assertGreater(min(many), 150)

    def test_by_hand(self):
        for lost in ({"": 2, "0": 1, "1": 1}, {"": 5, "0": 1, "1": 1}, {"": 10 ** 40, "0": 7, "1": 7}):
            self.assertIs(shows_trap(BOTH, Trap(lost)), True)
        for lost in ({}, {"0": 1, "1": 1}, {"": 1, "0": 1, "1": 1}, {"": 2, "0": 1, "1": 2}, {"": 2, "0": 2, "1": 1},
                     {"": 2, "0": 1}, {"": 2, "0": 0, "1": 0}, {"": 2, "0": True, "1": 1}, {"": 2, "0": 1, "1": "1"},
                     {"": 2, "0": 1, "1": 1, "q": 1}, {"": None, "0": 1, "1": 1}, {"": -2, "0": -3, "1": -3}):
            self.assertIs(shows_trap(BOTH, Trap(lost)), False, lost)
        self.assertIs(shows_trap(BOTH.with_start("0"), Trap({"0": 1, "1": 1})), True)
        self.assertIs(shows_trap(BOTH.with_start("0"), Trap({"0": 1})), False)

    def test_codes_lower_and_puts_may_stay(self):
        late = Setting(Bars("01", "110", "111"), start="11")
        self.assertIs(shows_trap(late, Trap({"11": 1})), True)
        self.assertIs(shows_trap(late, Trap({"11": 1, "1": 2})), False)
        puts = Setting(Bars("01", "11"), Menu("01", Put("0"), Put("1")))
        self.assertIs(shows_trap(puts, Trap({"": 1, "1": 1})), True)
        plain = Setting(Bars("01", "11"), Menu("01", PLAIN))
        self.assertIs(shows_trap(plain, Trap({"": 2, "1": 1})), True)
        self.assertIs(shows_trap(plain, Trap({"": 1, "1": 1})), False)

    def test_fixed(self):
        setting = Setting(Bars("01", "111"), start="11")
        self.assertIs(shows_trap(setting, Trap({"11": 1})), False)
        self.assertIs(shows_trap(setting, Trap({"11": 1}), {"11": PLAIN}), True)
        self.assertIs(shows_trap(setting, Trap({"11": 1}), fixed={"11": Put("1")}), True)
        self.assertIs(shows_trap(setting, Trap({"11": 1}), {"11": Put("0")}), False)
        self.assertIs(shows_trap(setting=setting, value=Trap({"11": 1}), fixed={"": Put("0")}), False)

    def test_values(self):
        for value in values():
            self.assertIs(shows_trap(BOTH, value), False)
            self.assertIs(shows_trap(BOTH, Trap(value)), False)
            self.assertIs(shows_trap(BOTH, Trap({"": value, "0": 1, "1": 1})), type(value) is int and value > 1)
        self.assertIs(shows_trap(BOTH, rounds(BOTH)), False)
        self.assertIs(shows_trap(BOTH, Open(rounds(BOTH))), False)


class ErrorsTest(unittest.TestCase):

    def test_errors_in_order(self):
        for work in (shows_open, shows_trap):
            for value in others(lambda value: isinstance(value, Setting)):
                refuses(self, BadSetting("setting"), work, value, 7)
                refuses(self, BadSetting("setting"), work, value, judged(ONES), 7)
            for value in others(lambda value: value is None or value == {}):
                for paper in (7, judged(ONES), Trap({})):
                    refuses(self, BadMove("fixed"), work, ONES, paper, value)
            for value in ({"111": PLAIN}, {"1": None}, {"1": OTHER}, {1: PLAIN}):
                refuses(self, BadMove("fixed"), work, ONES, None, fixed=value)


if __name__ == "__main__":
    unittest.main()
