import random
import unittest

from common import near_dicts, others, refuses, values
from flagfree.bars import Bars
from flagfree.errors import BadSetting, NoRound
from flagfree.look_sizes import shows_round, shows_sizes
from flagfree.moves import Code
from flagfree.settings import Setting
from flagfree.sizes import Round, Sizes, round_of, sizes
from oracles import is_round, slow_come, slow_rows
from samples import large_setting, mixed_settings, open_settings, some_settings

PLAIN = Code.plain("01")
ONES = Setting(Bars("01", "111111"))
BOTH = Setting(Bars("01", "00", "11"))


class ShowsSizesTest(unittest.TestCase):

    def test_by_the_definition(self):
        draw = random.Random(113)
        for setting in some_settings(60) + mixed_settings(60):
            rows = slow_rows(setting, 6)
            for n in range(7):
                self.assertIs(shows_sizes(setting, sizes(setting, n)), True)
                self.assertIs(shows_sizes(setting, Sizes(tuple(rows[:n + 1]))), True)
                self.assertIs(shows_sizes(setting, Sizes(rows[:n + 1])), False)
                near = near_dicts(rows[n], list(setting.bars.ends) + ["q", None], [0, 1, 7, True, None, "1"])
                near = [row for row in near if row != rows[n] or any(type(one) is not int for one in row.values())]
                for row in draw.sample(near, min(len(near), 6)):
                    self.assertIs(shows_sizes(setting, Sizes((*rows[:n], row))), False)
                    self.assertIs(shows_sizes(setting, Sizes((*rows[:n], row, *rows[n + 1:]))), False)
            if len(rows[6]) > 0:
                self.assertIs(shows_sizes(setting, Sizes(tuple(rows[1:]))), False)
                self.assertIs(shows_sizes(setting, Sizes((rows[0], rows[0]))), False)

    def test_by_hand(self):
        self.assertIs(shows_sizes(BOTH, Sizes(({"": 0, "0": 0, "1": 0}, {"": 1}, {}, {}))), True)
        self.assertIs(shows_sizes(BOTH, Sizes(({"": 0, "0": 0, "1": 0}, {"": 1}, {}, {"": 1}))), False)
        self.assertIs(shows_sizes(BOTH, Sizes(({"": 0, "0": 0, "1": 0}, {"": True}))), False)
        self.assertIs(shows_sizes(BOTH, Sizes(({"": False, "0": 0, "1": 0},))), False)
        self.assertIs(shows_sizes(BOTH, Sizes(({"": 0, "0": 0, "1": 0}, {"": 1, "0": 1}))), False)
        self.assertIs(shows_sizes(BOTH, Sizes(())), False)

    def test_many_rows(self):
        rows = tuple(slow_rows(Setting(Bars("01", "11")), 600))
        self.assertIs(shows_sizes(Setting(Bars("01", "11")), Sizes(rows)), True)
        self.assertIs(shows_sizes(Setting(Bars("01", "11")), Sizes((*rows, {"": 1, "1": 1}))), False)
        self.assertIs(shows_sizes(large_setting(), sizes(large_setting(), 400)), True)

    def test_values(self):
        for value in values():
            self.assertIs(shows_sizes(ONES, value), False)
            self.assertIs(shows_sizes(ONES, Sizes(value)), False)
            self.assertIs(shows_sizes(ONES, Sizes((value,))), False)
            self.assertIs(shows_sizes(ONES, Sizes((sizes(ONES, 0).rows[0], value))), False)
            self.assertIs(shows_sizes(Setting(Bars("01")), Sizes(({"": value},))), type(value) is int and value == 0)
        self.assertIs(shows_sizes(ONES, sizes(ONES, 3).rows), False)


class ShowsRoundTest(unittest.TestCase):

    def near_rounds(self, draw, found, come):
        """Rounds near to one."""
        rows = []
        for _ in range(40):
            told = [found.first, found.step, found.gain, found.lot]
            for k in draw.sample(range(3), draw.randint(0, 2)):
                told[k] = told[k] * draw.choice([1, 2, 3]) + draw.choice([-1, 0, 0, 1])
            if draw.random() < 0.5:
                told[3] = tuple(sorted(draw.sample(come, draw.randint(1, len(come)))))
            rows.append(told)
        for many in (2, 3):
            rows.append([found.first, found.step * many, found.gain * many, found.lot])
            rows.append([found.first + many, found.step, found.gain, found.lot])
        return rows

    def test_by_the_definition(self):
        draw = random.Random(127)
        many = [0, 0]
        for setting in open_settings(some_settings(120) + mixed_settings(120)):
            try:
                found = round_of(setting)
            except NoRound:
                continue
            if found.first + found.step > 40:
                continue
            told = sizes(setting, 2 * (found.first + found.step) + 4)
            rows = told.rows
            self.assertIs(shows_round(setting, found, told), True)
            for first, step, gain, lot in self.near_rounds(draw, found, slow_come(setting)):
                right = (first >= 0 and step >= 1 and gain >= 0 and first + step < len(rows)
                         and is_round(setting, first, step, gain, lot, rows))
                self.assertIs(shows_round(setting, Round(first, step, gain, lot), told), right)
                many[right is False] += 1
        self.assertGreater(min(many), 500)

    def test_by_hand(self):
        told = sizes(ONES, 11)
        ends = ONES.bars.ends
        self.assertIs(shows_round(ONES, Round(1, 5, 6, ends), told), True)
        self.assertIs(shows_round(ONES, Round(6, 5, 6, ends), told), True)
        self.assertIs(shows_round(ONES, Round(1, 10, 12, ends), told), True)
        for value in (Round(7, 5, 6, ends), Round(0, 5, 6, ends), Round(1, 5, 7, ends), Round(1, 4, 5, ends),
                      Round(1, 0, 0, ends), Round(6, -5, -6, ends), Round(-1, 5, 6, ends), Round(1, 5, 6, ends[1:]),
                      Round(1, 5, 6, list(ends)), Round(1, 5, 6, ends[::-1]), Round(1, 5, 6, (*ends, "q")),
                      Round(1, 5, 6, ("", *ends)), Round(True, 5, 6, ends), Round(1, 5, 6, ("", "1", "11")),
                      Round(1, 5, 6, ()), Round(10 ** 29, 10 ** 29, 6, ends), Round(10 ** 29, 5, 6, ends)):
            self.assertIs(shows_round(ONES, value, told), False)

    def test_an_end_that_gains_less(self):
        setting = Setting.read("01 : 0110 / 01 : code 0 0 1 1 ; put 0 / 01 : 1 2 / 1 1 / 01")
        told = sizes(setting, 7)
        # From 0 and 01 three more are paid at the third sign, and their moves stay there; but two from the empty end.
        self.assertEqual([row["01"] for row in told.rows], [0, 2, 5, 8, 11, 14, 17, 20])
        self.assertEqual([row[""] for row in told.rows], [0, 2, 4, 6, 8, 11, 14, 17])
        self.assertIs(shows_round(setting, Round(2, 1, 3, ("0", "01")), told), False)
        self.assertIs(shows_round(setting, Round(4, 1, 3, ("0", "01")), told), True)
        self.assertEqual(round_of(setting), Round(4, 1, 3, ("", "0", "01")))

    def test_too_few_rows(self):
        found = round_of(ONES)
        for n in range(12):
            self.assertIs(shows_round(ONES, found, sizes(ONES, n)), n >= 6)

    def test_wrong_rows(self):
        found, rows = round_of(ONES), sizes(ONES, 9).rows
        self.assertIs(shows_round(ONES, found, Sizes(rows)), True)
        self.assertIs(shows_round(ONES, found, Sizes((*rows[:-1], {**rows[-1], "": 1}))), False)
        self.assertIs(shows_round(ONES, found, Sizes(list(rows))), False)
        self.assertIs(shows_round(ONES, found, rows), False)

    def test_ends_that_do_not_come(self):
        setting = Setting(Bars("01", "0011", "00101"))
        found = round_of(setting)
        told = sizes(setting, found.first + found.step)
        self.assertIs(shows_round(setting, found, told), True)
        there = setting.with_start("001")
        self.assertNotIn("", slow_come(there))
        found = round_of(there)
        told = sizes(there, found.first + found.step)
        self.assertIs(shows_round(there, found, told), True)
        self.assertIs(shows_round(there, Round(found.first, found.step, found.gain, ("", *found.lot)), told), False)

    def test_lost_starts(self):
        told = sizes(BOTH, 3)
        for step in (1, 2, 3):
            self.assertIs(shows_round(BOTH, Round(0, step, 1, ("",)), told), False)
        self.assertIs(shows_round(BOTH, Round(2, 1, 0, ("",)), told), False)

    def test_values(self):
        told, ends = sizes(ONES, 11), ONES.bars.ends
        for value in values():
            self.assertIs(shows_round(ONES, value, told), False)
            self.assertIs(shows_round(ONES, round_of(ONES), value), False)
            self.assertIs(shows_round(ONES, Round(value, 5, 6, ends), told), type(value) is int and value == 1 or
                          type(value) is int and value == 2)
            self.assertIs(shows_round(ONES, Round(1, value, 6, ends), told), False)
            self.assertIs(shows_round(ONES, Round(1, 5, value, ends), told), False)
            self.assertIs(shows_round(ONES, Round(1, 5, 6, value), told), False)
            self.assertIs(shows_round(ONES, Round(1, 5, 6, (value,)), told), False)
            self.assertIs(shows_round(ONES, Round(1, 5, 6, ("", value)), told), False)


class ErrorsTest(unittest.TestCase):

    def test_bad_settings(self):
        for value in others(lambda value: isinstance(value, Setting)):
            refuses(self, BadSetting("setting"), shows_sizes, value, sizes(ONES, 1))
            refuses(self, BadSetting("setting"), shows_sizes, value, None)
            refuses(self, BadSetting("setting"), shows_round, value, None, None)

    def test_by_name(self):
        self.assertIs(shows_sizes(value=sizes(ONES, 2), setting=ONES), True)
        self.assertIs(shows_round(rows=sizes(ONES, 6), value=round_of(ONES), setting=ONES), True)


if __name__ == "__main__":
    unittest.main()
