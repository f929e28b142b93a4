import itertools
import random
import unittest
from fractions import Fraction

from common import others, refuses, same, values
from flagfree.bars import Bars
from flagfree.best import (best_tables, count_best, fewest_moves, first_best, is_best, least_moves, nearest_best,
                           needless_moves)
from flagfree.errors import BadSetting, BadTable, NoEnd, NoWay, TooMany
from flagfree.least import least_rate
from flagfree.menus import Menu
from flagfree.moves import Code, Put
from flagfree.rates import worst
from flagfree.rules import Late, Table
from flagfree.settings import Setting
from oracles import (all_tables, come_by, few_tables, keeps, least_numbers, slow_least, slow_rounds,
                     slow_worst)
from samples import large_setting, mixed_settings, open_settings, some_settings, some_tables

PLAIN = Code.plain("01")
THREE = Setting(Bars("012", "00"))
PLAIN3 = Code.plain("012")
BOTH = Setting(Bars("01", "00", "11"))
SWAP = Code({"0": "1", "1": "0"})
# Three codes do at each of five ends, two puts at the sixth one: 486 best tables.
TURNED = [Code({"0": "1", "1": "2", "2": "0"}), Code({"0": "2", "1": "0", "2": "1"})]
MANY = Setting(Bars("012", "000000"), Menu("012", PLAIN3, *TURNED, Put("1"), Put("2")))
SMALL = []


def slow_best(setting):
    """All best tables, in their order."""
    rows = [(moves, slow_worst(setting, moves)) for moves in all_tables(setting)]
    rates = [rate for _, rate in rows if rate is not None]
    return [Table(moves) for moves, rate in rows if rate is not None and rate == min(rates)]


def small_settings():
    """Open settings with few enough tables for a plain search."""
    if not SMALL:
        rows = some_settings(400) + mixed_settings(250) + [setting.with_menu(None) for setting in some_settings(150)]
        SMALL.extend(open_settings([setting for setting in rows if few_tables(setting, 250)]))
    return list(SMALL)


class BestTablesTest(unittest.TestCase):

    def test_by_a_plain_search(self):
        draw = random.Random(107)
        many = []
        for setting in small_settings():
            expected = slow_best(setting)
            found = list(best_tables(setting))
            self.assertEqual(found, expected, str(setting))
            self.assertTrue(all(type(table) is Table for table in found))
            self.assertEqual(first_best(setting), expected[0])
            self.assertTrue(same(count_best(setting), len(expected)))
            for table in some_tables(draw, setting, 2) + [Table({}), expected[-1]]:
                self.check_nearest(setting, table, expected)
            many.append(len(expected))
        self.assertTrue(len(many) > 250 and sum(1 for one in many if one > 1) > 60 and max(many) > 20)

    def check_nearest(self, setting, table, expected):
        moves = dict(table.moves)
        unlike = [sum(1 for end, move in best.moves if moves.get(end) != move) for best in expected]
        self.assertTrue(same(nearest_best(setting, table)[1], min(unlike)))
        self.assertEqual(nearest_best(setting, table)[0], expected[unlike.index(min(unlike))])
        self.assertIs(type(nearest_best(setting, table)), tuple)

    def test_just_the_ends_that_come(self):
        for setting in small_settings()[:120]:
            for table in best_tables(setting):
                self.assertEqual(sorted(table), sorted(table.reached(setting)))

    def test_by_hand(self):
        tables = [Table({"": PLAIN3, "0": Put("1")}), Table({"": PLAIN3, "0": Put("2")})]
        self.assertEqual(list(best_tables(THREE)), tables)
        self.assertEqual((first_best(THREE), count_best(THREE)), (tables[0], 2))
        turned = THREE.with_menu(Menu("012", Put("2"), PLAIN3, Put("1")))
        self.assertEqual(list(best_tables(turned)), tables)
        self.assertEqual(list(best_tables(Setting(Bars("01"), Menu("01", PLAIN, SWAP)))),
                         [Table({"": PLAIN}), Table({"": SWAP})])

    def test_ends_are_made_as_strings_ascend(self):
        setting = Setting(Bars("0123", "000", "33"))
        found = list(best_tables(setting))
        self.assertEqual(found, slow_best(setting))
        # The end 00 gets its move ahead of 3, so it changes more slowly.
        told = [(table["00"].sign, table["3"].sign) for table in found if "00" in table]
        self.assertEqual(told[:4], [("1", "0"), ("1", "1"), ("1", "2"), ("2", "0")])

    def test_ends_of_unlike_rates(self):
        unlike = Setting(Bars("01", "0011", "00101"))
        for start in unlike.bars.ends:
            setting = unlike.with_start(start)
            self.assertEqual(list(best_tables(setting)), slow_best(setting))
        self.assertEqual(list(best_tables(unlike)), [Table({"": PLAIN, "0": Put("1")})])

    def test_the_201st_one(self):
        found = best_tables(MANY)
        rows = [next(found) for _ in range(200)]
        refuses(self, TooMany("tables", 200), next, found)
        refuses(self, TooMany("tables", 200), count_best, MANY)
        refuses(self, TooMany("tables", 200), nearest_best, MANY, Table({}))
        self.assertEqual(first_best(MANY), rows[0])
        self.assertEqual(len({str(table) for table in rows}), 200)
        self.assertEqual({slow_worst(MANY, dict(table.moves)) for table in rows}, {Fraction(6, 5)})

    def test_just_200(self):
        setting = Setting.read("012 : 012 111 / 012 : code 0 1 1 2 2 0 ; code 0 2 1 1 2 0 ; code 0 0 1 2 2 1 ; "
                               "code 0 0 1 1 2 2 ; put 0 ; put 2 / 012 : 1 1 1 / 1 1 1 / -")
        expected = slow_best(setting)
        self.assertEqual(len(expected), 200)
        self.assertEqual(list(best_tables(setting)), expected)
        self.assertEqual(count_best(setting), 200)
        self.assertEqual(nearest_best(setting, expected[-1]), (expected[-1], 0))

    def test_just_201(self):
        setting = Setting.read("0123 : 022 1112 / 0123 : code 0 2 1 1 2 0 3 3 ; code 0 1 1 0 2 2 3 3 ; "
                               "code 0 1 1 3 2 0 3 2 ; put 0 ; put 2 / 0123 : 1 1 1 1 / 1 1 1 1 / -")
        expected = slow_best(setting)
        self.assertEqual(len(expected), 201)
        found = best_tables(setting)
        self.assertEqual([next(found) for _ in range(200)], expected[:200])
        refuses(self, TooMany("tables", 200), next, found)
        refuses(self, TooMany("tables", 200), count_best, setting)
        refuses(self, TooMany("tables", 200), nearest_best, setting, expected[0])

    def test_a_large_setting(self):
        setting = large_setting()
        rate = least_rate(setting)
        found = best_tables(setting)
        for _ in range(20):
            table = next(found)
            self.assertEqual(slow_rate(setting, table), rate)

    def test_one_by_one(self):
        found = best_tables(THREE)
        self.assertIs(iter(found), found)
        self.assertEqual(next(found)["0"], Put("1"))
        self.assertEqual(next(found)["0"], Put("2"))
        with self.assertRaises(StopIteration):
            next(found)

    def test_nearest_by_hand(self):
        for moves, put, many in (({"0": Put("2")}, "2", 1), ({}, "1", 2), ({"": PLAIN3, "0": Put("2")}, "2", 0),
                                 ({"": Put("1"), "0": Put("0")}, "1", 2),
                                 ({"": PLAIN3, "0": Put("1"), "7": PLAIN3}, "1", 0)):
            self.assertEqual(nearest_best(THREE, Table(moves)), (Table({"": PLAIN3, "0": Put(put)}), many))


def slow_rate(setting, table):
    """The worst rate of a table, with the numbers that keep it looked at."""
    found = worst(setting, table)
    moves = dict(table.moves)
    numbers = least_numbers(setting, moves, come_by(setting, moves)[0], found.rate.price, found.rate.weight)
    assert keeps(setting, found.rate.price, found.rate.weight, table, numbers)
    return found.rate


class IsBestTest(unittest.TestCase):

    def test_by_a_plain_search(self):
        draw = random.Random(109)
        many = [0, 0]
        for setting in small_settings():
            least = slow_least(setting)
            for table in some_tables(draw, setting, 3) + [first_best(setting)]:
                right = slow_worst(setting, dict(table.moves)) == least
                self.assertIs(is_best(setting, table), right)
                many[right is False] += 1
        self.assertGreater(min(many), 200)

    def test_by_hand(self):
        for moves, right in (({"": PLAIN3, "0": Put("2")}, True), ({"": PLAIN3, "0": Put("2"), "7": PLAIN3}, True),
                             ({"": PLAIN3, "0": Put("1"), "2": Put("z")}, True), ({"": PLAIN3, "0": PLAIN3}, False),
                             ({"": PLAIN3}, False), ({}, False), ({"": Put("1")}, False),
                             ({"": PLAIN3, "0": Put("0")}, False)):
            self.assertIs(is_best(THREE, Table(moves)), right)
        worse = Setting(Bars("01", "111"))
        self.assertIs(is_best(worse, Table({"": PLAIN, "1": Put("0")})), False)
        self.assertIs(is_best(worse, Table({"": PLAIN, "1": PLAIN, "11": Put("0")})), True)
        self.assertIs(is_best(table=Table({}), setting=THREE), False)

    def test_lost_starts(self):
        self.assertIs(is_best(BOTH, Table({"": PLAIN, "0": Put("1"), "1": Put("0")})), False)
        self.assertIs(is_best(BOTH, Table({})), False)

    def test_values(self):
        free = Setting(Bars("01"))
        for value in values():
            self.assertIs(is_best(THREE, value), False)
            self.assertIs(is_best(BOTH, value), False)
        self.assertIs(is_best(free, Table({"": PLAIN})), True)
        self.assertIs(is_best(free, Late()), False)


class MovesTest(unittest.TestCase):

    def test_least_moves_by_the_best_tables(self):
        many = [0, 0]
        for setting in small_settings()[:200]:
            lost = slow_rounds(setting)
            for end in setting.bars.ends:
                there = setting.with_start(end)
                found = least_moves(setting, end)
                self.assertIs(type(found), tuple)
                if end in lost:
                    self.assertEqual(found, ())
                    many[0] += 1
                    continue
                starts = [table[end] for table in slow_best(there)]
                self.assertEqual(list(found), [move for move in setting.menu if move in starts])
                fixed = [move for move in setting.menu if least_rate(there, {end: move}) == least_rate(there)]
                self.assertEqual(list(found), fixed)
                many[1] += 1
        self.assertGreater(min(many), 30)

    def test_least_moves_by_hand(self):
        self.assertEqual(least_moves(THREE, "0"), (Put("1"), Put("2")))
        self.assertEqual(least_moves(THREE, ""), (PLAIN3,))
        self.assertEqual(least_moves(setting=BOTH, end="0"), ())
        self.assertEqual(least_moves(Setting(Bars("01", "110", "111")), "11"), ())

    def test_needless_and_fewest_by_a_plain_search(self):
        many = 0
        for setting in small_settings()[::2]:
            rate = slow_least(setting)
            moves = list(setting.menu)
            signs = setting.bars.signs

            def keeps_with(chosen):
                return slow_least(setting.with_menu(Menu(signs, *chosen))) == rate

            needless = [move for move in moves if keeps_with([one for one in moves if one != move])]
            self.assertTrue(needless_moves(setting) == tuple(needless))
            if len(moves) <= 6:
                rows = [chosen for size in range(len(moves) + 1) for chosen in itertools.combinations(moves, size)]
                expected = next(chosen for chosen in rows if keeps_with(chosen))
                found = fewest_moves(setting)
                self.assertTrue(type(found) is Menu and found == Menu(signs, *expected))
                many += len(found) > 1
        self.assertGreater(many, 40)

    def test_needless_and_fewest_by_hand(self):
        self.assertEqual(needless_moves(THREE), (Put("0"), Put("1"), Put("2")))
        self.assertEqual(list(fewest_moves(THREE)), [PLAIN3, Put("1")])
        self.assertEqual(needless_moves(setting=MANY), MANY.menu.moves)
        self.assertEqual(list(fewest_moves(setting=MANY)), [PLAIN3, Put("1")])
        alone = Setting(Bars("01"), Menu("01", PLAIN))
        self.assertEqual((needless_moves(alone), list(fewest_moves(alone))), ((), [PLAIN]))

    def test_most_moves(self):
        codes = [Code(dict(zip("0123", words))) for words in list(itertools.permutations("0123"))[:8]]
        free = Setting(Bars("0123"), Menu("0123", *codes[:4], *[Put(sign) for sign in "0123"]))
        self.assertEqual(list(fewest_moves(free)), [codes[0]])
        more = free.with_menu(Menu("0123", *codes[:5], *[Put(sign) for sign in "0123"]))
        refuses(self, TooMany("moves", 8), fewest_moves, more)
        self.assertEqual(len(needless_moves(more)), 9)
        lost = more.with_bars(Bars("0123", "0", "1", "2", "3"))
        refuses(self, NoWay(""), fewest_moves, lost)


class ErrorsTest(unittest.TestCase):

    def test_bad_settings(self):
        for value in others(lambda value: isinstance(value, Setting)):
            refuses(self, BadSetting("setting"), lambda: next(best_tables(value)))
            for work in (first_best, count_best, needless_moves, fewest_moves):
                refuses(self, BadSetting("setting"), work, value)
            for work in (is_best, nearest_best, least_moves):
                refuses(self, BadSetting("setting"), work, value, None)

    def test_other_errors_in_order(self):
        for value in others(lambda value: isinstance(value, Table)):
            for setting in (THREE, BOTH, MANY):
                refuses(self, BadTable("table"), nearest_best, setting, value)
        for value in others(lambda value: value in ("", "0")):
            refuses(self, NoEnd(value), least_moves, THREE, value)

    def test_lost_starts(self):
        for start in ("", "0"):
            setting = BOTH.with_start(start)
            refuses(self, NoWay(start), lambda: next(best_tables(setting)))
            for work in (first_best, count_best, needless_moves, fewest_moves):
                refuses(self, NoWay(start), work, setting)
            refuses(self, NoWay(start), nearest_best, setting, Table({}))


if __name__ == "__main__":
    unittest.main()
