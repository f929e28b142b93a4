import random
import unittest

from common import check_paper, is_integer, others, refuses, same, values
from flagfree.bars import Bars
from flagfree.errors import BadEnd, BadMove, BadNumber, BadSetting, NoRound, TooMany
from flagfree.menus import Menu
from flagfree.moves import Code, Put
from flagfree.prices import Prices
from flagfree.settings import Setting
from flagfree.sizes import Round, Sizes, best_moves, reply, round_of, size, sizes
from oracles import greatest_lot, is_round, outcomes, slow_come, slow_having, slow_rounds, slow_rows
from samples import large_setting, mixed_settings, open_settings, some_settings

PLAIN = Code.plain("01")
ONES = Setting(Bars("01", "111111"))
BOTH = Setting(Bars("01", "00", "11"))
UNLIKE = Setting(Bars("01", "0011", "00101"))
DEARER = Setting.read("012 : 011 02 / 012 : code 0 21 1 122 2 22 ; code 0 200 1 212 2 0 ; put 0 ; put 1 / "
                      "012 : 1 1 1 / 1 1 1 / 0")


def narrow_settings(many):
    """Open settings from whose start at most four ends come."""
    rows = some_settings(3 * many) + mixed_settings(2 * many)
    return open_settings([setting for setting in rows if len(slow_come(setting)) <= 4])


class SizesTest(unittest.TestCase):

    def test_rows_by_the_definition(self):
        missing = 0
        for setting in some_settings(150) + mixed_settings(150):
            expected = slow_rows(setting, 7)
            for n in range(8):
                found = sizes(setting, n)
                self.assertTrue(type(found) is Sizes and same(found.rows, tuple(expected[:n + 1])), str(setting))
                self.assertTrue(same(size(setting, n), expected[n].get(setting.start)))
            lost = slow_rounds(setting)
            for end in setting.bars.ends:
                self.assertEqual([n for n in range(8) if end not in expected[n]],
                                 [n for n in range(8) if end in lost and n >= lost[end]])
            missing += len(lost) > 0
        self.assertGreater(missing, 40)

    def test_by_hand(self):
        rows = sizes(ONES, 11).rows
        self.assertEqual([row[""] for row in rows], [0, 1, 2, 3, 4, 5, 7, 8, 9, 10, 11, 13])
        for n in range(1, 12):
            self.assertEqual(rows[n], {"1" * k: n + (n - 1 + k) // 5 for k in range(6)})
        self.assertEqual(sizes(BOTH, 3), Sizes(({"": 0, "0": 0, "1": 0}, {"": 1}, {}, {})))
        self.assertEqual([sizes(UNLIKE, 5).rows[n]["00"] for n in range(6)], [0, 1, 4, 7, 10, 13])

    def test_puts_ahead_of_puts(self):
        setting = Setting(Bars("01", "11", "101", "1001"), None, Prices("01", {"0": 4, "1": 3}))
        self.assertEqual(sizes(setting, 1).rows[1], {"": 4, "1": 16, "10": 12, "100": 8})
        self.assertEqual(size(setting, 2), 3 + 16)

    def test_weights_play_no_part(self):
        setting = ONES.with_prices(Prices("01", {"0": 2}, {"0": 9, "1": 5}))
        self.assertEqual(sizes(setting, 6), sizes(setting.with_prices(Prices("01", {"0": 2})), 6))
        self.assertEqual(sizes(setting, 6).rows[6][""], 12)

    def test_most_signs(self):
        self.assertEqual(len(sizes(ONES, 400).rows), 401)
        self.assertEqual(sizes(ONES, 400).rows[400][""], 400 + 399 // 5)
        for n in (401, 10 ** 29):
            refuses(self, TooMany("signs", 400), sizes, ONES, n)
            refuses(self, TooMany("signs", 400), best_moves, ONES, n, "")
            refuses(self, TooMany("signs", 400), reply, ONES, n, "", PLAIN)

    def test_dicts_belong_to_the_caller(self):
        sizes(ONES, 3).rows[2].clear()
        self.assertEqual(len(sizes(ONES, 3).rows[2]), 6)


class RoundTest(unittest.TestCase):

    def check_none_ahead(self, setting, first, step, rows):
        """See that there is no round of a lesser first, or of this one and a lesser step."""
        for lesser in range(first + 1):
            for less in range(1, (step if lesser == first else 201 - lesser)):
                self.assertIsNone(greatest_lot(setting, lesser, less, rows), str(setting))

    def test_by_a_plain_search(self):
        unlike, late = 0, 0
        for setting in narrow_settings(60):
            rows = slow_rows(setting, 200)
            found = round_of(setting)
            self.assertIs(type(found), Round)
            gain, lot = greatest_lot(setting, found.first, found.step, rows)
            self.assertTrue(same((found.gain, found.lot), (gain, lot)))
            if found.first <= 3:
                self.check_none_ahead(setting, found.first, found.step, rows)
            for n in range(found.first, 190 - found.step):
                for end in lot:
                    self.assertEqual(rows[n + found.step][end], rows[n][end] + gain)
            unlike += len(lot) < len(slow_come(setting))
            late += found.first > 0
        self.assertTrue(unlike > 3 and late > 3, (unlike, late))

    def test_no_round_though_the_start_is_open(self):
        # From "0" each sign costs 4, but contents lead to the empty end, from where each one costs 3.
        rows = slow_rows(DEARER, 400)
        self.assertEqual([[row[end] for row in rows[:4]] for end in ("0", "")], [[0, 4, 8, 12], [0, 3, 6, 9]])
        for first in range(60):
            for step in range(1, 61 - first):
                self.assertIsNone(greatest_lot(DEARER, first, step, rows))
        refuses(self, NoRound(200), round_of, DEARER)
        for n in (401, 10 ** 29):
            refuses(self, NoRound(200), size, DEARER, n)
        self.assertEqual(size(DEARER, 400), 1600)

    def test_by_hand(self):
        self.assertEqual(round_of(ONES), Round(1, 5, 6, ONES.bars.ends))
        self.assertEqual(round_of(Setting(Bars("01"))), Round(0, 1, 1, ("",)))
        found = round_of(UNLIKE)
        self.assertTrue("" in found.lot and "00" not in found.lot)
        for setting in (BOTH, BOTH.with_start("0"), Setting(Bars("01", "0", "1"))):
            refuses(self, NoRound(200), round_of, setting)

    def test_larger_ones(self):
        rows = [large_setting()] + open_settings(mixed_settings(40))
        for setting in rows:
            try:
                found = round_of(setting)
            except NoRound:
                continue
            told = sizes(setting, found.first + found.step).rows
            self.assertTrue(is_round(setting, found.first, found.step, found.gain, found.lot, told))
            self.assertEqual(found.lot, tuple(sorted(found.lot)))


class SizeTest(unittest.TestCase):

    def test_large_numbers_by_the_rows(self):
        many = 0
        for setting in narrow_settings(40) + [ONES, UNLIKE]:
            rows = slow_rows(setting, 430)
            for n in (399, 400, 401, 402, 407, 413, 430):
                self.assertTrue(same(size(setting, n), rows[n][setting.start]))
            many += 1
        self.assertGreater(many, 30)

    def test_thirty_figures(self):
        for n in (10 ** 29, 10 ** 30 - 1):
            self.assertTrue(same(size(ONES, n), n + (n - 1) // 5))
            self.assertTrue(same(size(Setting(Bars("01")), n), n))
            self.assertTrue(same(size(UNLIKE, n), 2 * n - 3))

    def test_lost_starts(self):
        for start, rows in (("", [0, 1, None, None]), ("0", [0, None, None, None])):
            setting = BOTH.with_start(start)
            self.assertEqual([size(setting, n) for n in range(4)], rows)
            for n in (200, 400, 401, 10 ** 20, 10 ** 30 - 1):
                self.assertIsNone(size(setting, n))

    def test_by_name(self):
        self.assertEqual(size(n=6, setting=ONES), 7)
        self.assertEqual(sizes(n=1, setting=ONES), sizes(ONES, 1))
        self.assertEqual(round_of(setting=ONES).step, 5)
        self.assertEqual(best_moves(end="11111", n=1, setting=ONES), (Put("0"),))
        self.assertEqual(reply(move=PLAIN, end="1111", n=3, setting=ONES), "1")


class MovesTest(unittest.TestCase):

    def test_best_moves_by_the_definition(self):
        many = [0, 0, 0]
        for setting in some_settings(80) + mixed_settings(80):
            rows = slow_rows(setting, 5)
            for n in range(6):
                for end in setting.bars.ends:
                    found = best_moves(setting, n, end)
                    expected = slow_having(setting, rows[n - 1], rows[n], end) if n > 0 else []
                    self.assertTrue(type(found) is tuple and list(found) == expected, str(setting))
                    many[min(len(found), 2)] += 1
        self.assertGreater(min(many), 50)

    def slow_reply(self, setting, rows, n, end, move):
        """The sign that a reply tells, by its definition."""
        if isinstance(move, Put):
            return None
        told = sorted(outcomes(setting, end, move))
        first = [sign for sign, _, _, behind in told if behind not in rows[n - 1]]
        if first:
            return first[0]
        most = max(price + rows[n - 1][behind] for _, price, _, behind in told)
        return next(sign for sign, price, _, behind in told if price + rows[n - 1][behind] == most)

    def test_reply_by_the_definition(self):
        told = {}
        for setting in some_settings(100) + mixed_settings(100):
            rows = slow_rows(setting, 4)
            for n in range(1, 5):
                for end in setting.bars.ends:
                    for move in setting.menu:
                        expected = self.slow_reply(setting, rows, n, end, move)
                        self.assertTrue(same(reply(setting, n, end, move), expected))
                        told[expected] = told.get(expected, 0) + 1
        self.assertGreater(min(told[None], told["0"], told["1"], told["2"]), 20)

    def test_reply_by_hand(self):
        self.assertEqual([reply(ONES, n, "1111", PLAIN) for n in (1, 2, 3)], ["0", "1", "1"])
        self.assertEqual(reply(ONES, 3, "11111", PLAIN), "1")
        self.assertEqual(reply(ONES, 1, "11111", PLAIN), "1")
        self.assertIsNone(reply(ONES, 1, "11111", Put("1")))
        late = Setting(Bars("01", "110", "111"))
        self.assertEqual([reply(late, n, "1", PLAIN) for n in (1, 2)], ["0", "1"])
        self.assertEqual(reply(late, 2, "11", PLAIN), "0")
        self.assertEqual([reply(BOTH, n, "", PLAIN) for n in (1, 2, 3)], ["0", "0", "0"])
        both = Setting(Bars("012", "00", "02", "11", "12", "222"))
        self.assertEqual([reply(both, n, "22", Code.plain("012")) for n in (1, 2)], ["2", "0"])
        dear = ONES.with_prices(Prices("01", {"0": 9}))
        self.assertEqual([reply(dear, 1, end, PLAIN) for end in ("1111", "11111")], ["0", "1"])

    def test_no_signs(self):
        for end in ONES.bars.ends:
            self.assertEqual(best_moves(ONES, 0, end), ())
            refuses(self, BadNumber(0), reply, ONES, 0, end, PLAIN)
            refuses(self, BadNumber(0), reply, ONES, 0, end, None)
        self.assertEqual(best_moves(BOTH, 3, ""), ())


class ErrorsTest(unittest.TestCase):

    def test_bad_settings(self):
        for value in others(lambda value: isinstance(value, Setting)):
            refuses(self, BadSetting("setting"), round_of, value)
            for work in (sizes, size):
                refuses(self, BadSetting("setting"), work, value, None)
            refuses(self, BadSetting("setting"), best_moves, value, None, None)
            refuses(self, BadSetting("setting"), reply, value, None, None, None)

    def test_bad_numbers(self):
        for value in others(lambda value: is_integer(value) and value >= 0):
            for setting in (ONES, BOTH):
                refuses(self, BadNumber(value), sizes, setting, value)
                refuses(self, BadNumber(value), size, setting, value)
                refuses(self, BadNumber(value), best_moves, setting, value, None)
                refuses(self, BadNumber(value), reply, setting, value, None, None)

    def test_other_errors_in_order(self):
        for value in others(lambda value: value in ONES.bars.ends):
            refuses(self, TooMany("signs", 400), best_moves, ONES, 401, value)
            refuses(self, TooMany("signs", 400), reply, ONES, 401, value, None)
            refuses(self, BadEnd(value), best_moves, ONES, 0, value)
            refuses(self, BadEnd(value), reply, ONES, 0, value, None)
            refuses(self, BadEnd(value), reply, ONES, 400, value, None)
        for value in others(lambda value: value in list(ONES.menu)) + [Put("2"), Code({"0": "1", "1": "0"})]:
            refuses(self, BadMove("move"), reply, ONES, 1, "", value)
            refuses(self, BadNumber(0), reply, ONES, 0, "", value)
        refuses(self, BadMove("move"), reply, ONES.with_menu(Menu("01", PLAIN)), 1, "", Put("0"))


class PapersTest(unittest.TestCase):

    def test_papers(self):
        check_paper(self, Sizes, ("rows",))
        check_paper(self, Round, ("first", "step", "gain", "lot"))
        for value in values():
            self.assertIs(sizes(ONES, 3) == value, False)
            self.assertIs(round_of(ONES) == value, False)


if __name__ == "__main__":
    unittest.main()
