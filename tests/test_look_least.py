import random
import unittest

from common import near_dicts, others, refuses, values
from flagfree.bars import Bars
from flagfree.errors import BadMove, BadRate, BadSetting
from flagfree.least import Least, least
from flagfree.look_least import shows_forces, shows_keeps, shows_least
from flagfree.menus import Menu
from flagfree.moves import Code, Put
from flagfree.prices import Rate
from flagfree.rules import Table
from flagfree.settings import Setting
from flagfree.traps import Trap
from oracles import forces, keeps
from samples import mixed_settings, some_fixed

PLAIN = Code.plain("01")
ONES = Setting(Bars("01", "111111"))
STEPS = {"1" * k: k for k in range(6)}
TABLE = Table({**{"1" * k: PLAIN for k in range(5)}, "11111": Put("0")})
RATE = Rate(6, 5)


def found_ones(many):
    """Settings with fixed moves and what least tells, where the start is open."""
    draw = random.Random(97)
    rows = []
    for setting in mixed_settings(many):
        for fixed in (None, some_fixed(draw, setting)):
            found = least(setting, fixed)
            if found:
                rows.append((setting, fixed, found))
    return rows


def near_rates(rate):
    """Rates near to one."""
    return [rate, Rate(rate.price, rate.weight + 1), rate + Rate(1, 1000), rate - Rate(1, 1000), rate + 1]


def near_tables(setting, table):
    """Tables near to one."""
    moves = dict(table.moves)
    rows = [table, Table({})]
    for end in moves:
        rows.append(Table({one: moves[one] for one in moves if one != end}))
        rows.extend(table.with_move(end, move) for move in [*setting.menu.moves, Put("z"), Code({"a": "a"})])
    return rows


class ShowsKeepsTest(unittest.TestCase):

    def test_by_the_definition(self):
        draw = random.Random(101)
        many = [0, 0]
        for setting, fixed, found in found_ones(120):
            keys = list(setting.bars.ends) + ["q", None, 7]
            rows = near_dicts(found.numbers, keys, [0, 50, 10 ** 35, -1, True, None, "1"])
            more = {end: found.numbers[end] + 9 for end in found.numbers}
            rows = [found.numbers, more] + draw.sample(rows, min(len(rows), 12))
            for numbers in rows:
                for table in [found.table] + draw.sample(near_tables(setting, found.table), 2):
                    for rate in near_rates(found.rate):
                        right = keeps(setting, rate.price, rate.weight, table, numbers, fixed)
                        self.assertIs(shows_keeps(setting, rate, table, numbers, fixed), right)
                        many[right is False] += 1
        self.assertGreater(min(many), 400)

    def test_by_hand(self):
        self.assertIs(shows_keeps(ONES, RATE, TABLE, STEPS), True)
        self.assertIs(shows_keeps(ONES, Rate(7, 5), TABLE, STEPS), True)
        self.assertIs(shows_keeps(ONES, Rate(1), TABLE, STEPS), False)
        self.assertIs(shows_keeps(ONES, Rate(2), Table({"": Put("1"), "1": PLAIN, "11": Put("0")}),
                                  {"": 2, "1": 1, "11": 3}), False)
        self.assertIs(shows_keeps(ONES, Rate(2), Table({"": PLAIN, "1": Put("0")}), {"": 0, "1": 1}), True)
        for end in STEPS:
            self.assertIs(shows_keeps(ONES, RATE, TABLE, {**STEPS, end: STEPS[end] + 2}), False)
            self.assertIs(shows_keeps(ONES, RATE, TABLE, {one: STEPS[one] for one in STEPS if one != end}), False)
            self.assertIs(shows_keeps(ONES, RATE, TABLE, {**STEPS, end: False}), False)

    def test_more_ends(self):
        setting = Setting(Bars("01", "111", "000"))
        table = Table({"": PLAIN, "0": Put("1"), "1": Put("0"), "11": Put("0"), "00": PLAIN})
        self.assertIs(shows_keeps(setting, Rate(9), table, {"": 10, "0": 10, "1": 10}), False)
        table = Table({"": PLAIN, "0": PLAIN, "1": PLAIN, "11": Put("0"), "00": Put("1")})
        numbers = {"": 1, "0": 0, "1": 0, "11": 1, "00": 1}
        self.assertIs(shows_keeps(setting, Rate(3), table, numbers), True)
        self.assertIs(shows_keeps(setting, Rate(3), table, {**numbers, "q": 1}), False)
        self.assertIs(shows_keeps(setting.with_start("11"), Rate(3), table, numbers), True)

    def test_fixed(self):
        self.assertIs(shows_keeps(ONES, RATE, TABLE, STEPS, {"11111": Put("0")}), True)
        self.assertIs(shows_keeps(ONES, RATE, TABLE, STEPS, {"111": Put("0")}), False)
        self.assertIs(shows_keeps(ONES, RATE, TABLE, STEPS, {"": Put("0")}), False)
        small = {"": 0, "1": 1}
        eager = Table({"": PLAIN, "1": Put("0")})
        self.assertIs(shows_keeps(ONES, Rate(2), eager, small, fixed={"11": PLAIN}), True)

    def test_the_menu_counts(self):
        small = ONES.with_menu(Menu("01", PLAIN, Put("1")))
        self.assertIs(shows_keeps(small, RATE, TABLE, STEPS), False)

    def test_values(self):
        for value in values():
            self.assertIs(shows_keeps(ONES, RATE, value, STEPS), False)
            self.assertIs(shows_keeps(ONES, RATE, TABLE, value), False)
            self.assertIs(shows_keeps(ONES, RATE, value, value), False)
            free = Setting(Bars("01"))
            right = type(value) is int and value >= 0
            self.assertIs(shows_keeps(free, Rate(1), Table({"": PLAIN}), {"": value}), right)


class ShowsForcesTest(unittest.TestCase):

    def test_by_the_definition(self):
        draw = random.Random(103)
        many = [0, 0]
        for setting, fixed, found in found_ones(120):
            keys = list(setting.bars.ends) + ["q", None, 7]
            rows = near_dicts(found.against, keys, [0, 50, 10 ** 35, -1, True, None, "1"])
            more = {end: found.against[end] + 9 for end in found.against}
            rows = [found.against, more] + draw.sample(rows, min(len(rows), 12))
            traps = near_dicts(found.rounds, keys, [1, 2, 0, True, None])
            for against in rows:
                for trap in [found.rounds, {}] + draw.sample(traps, min(len(traps), 2)):
                    for rate in near_rates(found.rate):
                        right = forces(setting, rate.price, rate.weight, against, trap, fixed)
                        self.assertIs(shows_forces(setting, rate, against, trap, fixed), right)
                        many[right is False] += 1
        self.assertGreater(min(many), 400)

    def test_by_hand(self):
        self.assertIs(shows_forces(ONES, RATE, STEPS, {}), True)
        self.assertIs(shows_forces(ONES, Rate(7, 6), STEPS, {}), True)
        self.assertIs(shows_forces(ONES, Rate(1), {end: 0 for end in STEPS}, {}), True)
        self.assertIs(shows_forces(ONES, Rate(1), {"": 0}, {}), False)
        self.assertIs(shows_forces(Setting(Bars("01")), Rate(1), {"": 0}, {}), True)
        self.assertIs(shows_forces(ONES, Rate(5, 4), STEPS, {}), False)
        self.assertIs(shows_forces(ONES, RATE, {end: STEPS[end] + 4 for end in STEPS}, {}), True)
        for end in STEPS:
            self.assertIs(shows_forces(ONES, RATE, {**STEPS, end: STEPS[end] + 1}, {}), False)
            self.assertIs(shows_forces(ONES, RATE, {one: STEPS[one] for one in STEPS if one != end}, {}), False)
            self.assertIs(shows_forces(ONES, RATE, {**STEPS, end: str(STEPS[end])}, {}), False)

    def test_traps(self):
        late = Setting(Bars("01", "110", "111"))
        self.assertIs(shows_forces(late, Rate(2), {"": 0, "1": 1}, {"11": 1}), True)
        for trap in ({}, {"11": 0}, {"11": True}, {"11": 1, "1": 1}, {"1": 1}, None, [("11", 1)], {"q": 1},
                     Trap({"11": 1})):
            self.assertIs(shows_forces(late, Rate(2), {"": 0, "1": 1}, trap), False)
        self.assertIs(shows_forces(late, Rate(2), {"": 0, "1": 1}, {"11": 9}), True)
        both = Setting(Bars("01", "00", "11"))
        lost = {"": 2, "0": 1, "1": 1}
        self.assertIs(shows_forces(both, Rate(10 ** 29), {"": 0}, lost), True)

    def test_words_that_are_completed(self):
        none = Setting(Bars("01", "0", "1"))
        self.assertIs(shows_forces(none, Rate(99), {"": 5}, {}), True)

    def test_fixed(self):
        fixed = {"111": Put("0")}
        found = least(ONES, fixed)
        self.assertIs(shows_forces(ONES, Rate(4, 3), found.against, found.rounds, fixed), True)
        self.assertIs(shows_forces(ONES, Rate(4, 3), found.against, found.rounds), False)
        self.assertIs(shows_forces(ONES, Rate(4, 3), found.against, found.rounds, fixed={"111": PLAIN}), False)

    def test_values(self):
        for value in values():
            self.assertIs(shows_forces(ONES, RATE, value, {}), False)
            self.assertIs(shows_forces(ONES, RATE, STEPS, value), value == {})
            free = Setting(Bars("01"))
            self.assertIs(shows_forces(free, Rate(1), {"": value}, {}), type(value) is int and value >= 0)


class ShowsLeastTest(unittest.TestCase):

    def test_what_least_tells(self):
        for setting, fixed, found in found_ones(120):
            self.assertIs(shows_least(setting, found, fixed), True)
            for rate in near_rates(found.rate)[1:] + [None, found.rate.price]:
                other = Least(rate, found.table, found.numbers, found.against, found.rounds)
                self.assertIs(shows_least(setting, other, fixed), False)
            for name in ("numbers", "against"):
                numbers = getattr(found, name)
                parts = {"rate": found.rate, "table": found.table, "numbers": found.numbers, "against": found.against,
                         "rounds": found.rounds}
                less = {end: numbers[end] for end in numbers if end != setting.start}
                self.assertIs(shows_least(setting, Least(**{**parts, name: less}), fixed), False)
                self.assertIs(shows_least(setting, Least(**{**parts, name: {**numbers, "q": 0}}), fixed), False)
                more = {end: numbers[end] + 10 ** 9 for end in numbers}
                self.assertIs(shows_least(setting, Least(**{**parts, name: more}), fixed), True)

    def test_both_kinds_count(self):
        self.assertIs(shows_least(ONES, Least(RATE, TABLE, STEPS, STEPS, {})), True)
        self.assertIs(shows_least(ONES, Least(Rate(7, 5), TABLE, STEPS, STEPS, {})), False)
        self.assertIs(shows_least(ONES, Least(Rate(1), TABLE, STEPS, {"": 0}, {})), False)
        self.assertIs(shows_least(ONES, Least(RATE, TABLE, STEPS, {}, {})), False)
        self.assertIs(shows_least(ONES, Least(RATE, TABLE, {}, STEPS, {})), False)
        self.assertIs(shows_least(ONES, Least(RATE, Table({}), STEPS, STEPS, {})), False)
        self.assertIs(shows_least(ONES, Least(RATE, TABLE, STEPS, STEPS, {"": 1})), False)

    def test_fixed(self):
        found = Least(RATE, TABLE, STEPS, STEPS, {})
        self.assertIs(shows_least(ONES, found, {"11111": Put("0")}), True)
        self.assertIs(shows_least(ONES, found, fixed={"111": Put("0")}), False)

    def test_values(self):
        for value in values():
            self.assertIs(shows_least(ONES, value), False)
            self.assertIs(shows_least(ONES, Least(value, TABLE, STEPS, STEPS, {})), value == RATE)
            self.assertIs(shows_least(ONES, Least(RATE, value, STEPS, STEPS, {})), False)
            self.assertIs(shows_least(ONES, Least(RATE, TABLE, value, STEPS, {})), False)
            self.assertIs(shows_least(ONES, Least(RATE, TABLE, STEPS, value, {})), False)
            self.assertIs(shows_least(ONES, Least(RATE, TABLE, STEPS, STEPS, value)), value == {})
        self.assertIs(shows_least(Setting(Bars("01", "00", "11")), Trap({"": 2, "0": 1, "1": 1})), False)


class ErrorsTest(unittest.TestCase):

    def test_errors_in_order(self):
        for value in others(lambda value: isinstance(value, Setting)):
            refuses(self, BadSetting("setting"), shows_keeps, value, 7, 7, 7, 7)
            refuses(self, BadSetting("setting"), shows_forces, value, 7, 7, 7, 7)
            refuses(self, BadSetting("setting"), shows_least, value, 7, 7)
        for value in others(lambda value: isinstance(value, Rate)):
            refuses(self, BadRate("rate"), shows_keeps, ONES, value, 7, 7, 7)
            refuses(self, BadRate("rate"), shows_forces, ONES, value, 7, 7, 7)
        for value in others(lambda value: value is None or value == {}):
            refuses(self, BadMove("fixed"), shows_keeps, ONES, RATE, 7, 7, value)
            refuses(self, BadMove("fixed"), shows_forces, ONES, RATE, 7, 7, value)
            refuses(self, BadMove("fixed"), shows_least, ONES, 7, value)
        refuses(self, BadMove("fixed"), shows_least, ONES, least(ONES), {"1": Put("2")})
        refuses(self, BadMove("fixed"), shows_keeps, ONES, RATE, TABLE, STEPS, fixed={"0": PLAIN})

    def test_by_name(self):
        self.assertIs(shows_keeps(numbers=STEPS, table=TABLE, rate=RATE, setting=ONES, fixed={}), True)
        self.assertIs(shows_forces(rounds={}, against=STEPS, rate=RATE, setting=ONES, fixed=None), True)
        self.assertIs(shows_least(value=least(ONES), setting=ONES), True)


if __name__ == "__main__":
    unittest.main()
