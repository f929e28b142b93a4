"""The examples of the document, as they stand there."""

import unittest

from common import same, same_error, told
from flagfree import errors

BARS = r'''
>>> from flagfree.bars import Bars
>>> runs, flag = Bars("01", "000000", "111111"), Bars("01", "01111110")
>>> [str(runs), runs.ends == ("", "0", "00", "000", "0000", "00000", "1", "11", "111", "1111", "11111"), flag.ends[-1], flag.end_of("110111")]
['01 : 000000 111111', True, '0111111', '0111']
>>> [runs.behind("0000", "1"), runs.behind("11111", "1"), "0111111000" in runs, "01011" in runs, flag.behind("0111111", "10"), str(runs | Bars("01", "11111", "1111110"))]
['1', None, True, False, '0', '01 : 000000 11111']
>>> [flag <= runs, Bars("01", "0000000") <= runs, str(~Bars("01", "001", "01")), str(flag.changed({"0": "1", "1": "0"})), str(Bars("ab"))]
[True, True, '01 : 10', '01 : 10000001', 'ab : -']
>>> Bars("10")
raises BadSigns('10')
>>> Bars("01", "", "012")
raises BadWord('')
>>> runs.end_of("0111111")
raises BadSent('0111111')
>>> Bars.read("01 : 11 1")
raises BadText(0, 3)
>>> Bars.read("01 :")
raises BadText(0, 2)
>>> Bars.read("01 : - 1")
raises BadText(0, 3)
'''

MOVES_MENUS_PRICES = r'''
>>> from flagfree.menus import Menu
>>> from flagfree.moves import Code, Move, Put
>>> from flagfree.prices import Prices, Rate
>>> slip = Code.escape("aex", "x", {"e": "a", "x": "x"})
>>> [str(slip), slip["e"], "q" in slip, len(slip), slip == Code({"x": "xx", "e": "xa", "a": "a"}), str(Code.chosen("01", {"0": "1", "1": "1"}))]
['code a a e xa x xx', 'xa', False, 3, True, 'code 0 10 1 11']
>>> [Move.read("put 0") == Put("0"), slip.is_of("aex"), slip.is_of("ax"), str(Code.plain("01").changed({"0": "b", "1": "a"}))]
[True, True, False, 'code a a b b']
>>> menu = Menu("01", Put("1"), Code.plain("01"), Put("0"))
>>> [str(menu), menu == Menu.plain("01"), menu.place(Put("1")), str(menu - Menu("01", Put("0"))), Menu("01", Put("1")) < menu]
['01 : code 0 0 1 1 ; put 0 ; put 1', True, 2, '01 : code 0 0 1 1 ; put 1', True]
>>> prices = Prices("01", {"0": 2}, weights={"1": 3})
>>> [str(prices), prices.cost("0100"), prices.weigh("011"), str(3 * prices), prices.with_price("0", 1) == Prices("01", {}, {"1": 3})]
['01 : 2 1 / 1 3', 7, 7, '01 : 6 3 / 1 3', True]
>>> [str(Rate(12, 10)), Rate(6, 5) < Rate(5, 4), Rate(6, 5) > 1, str(1 + Rate(1, 5)), str(2 * Rate(3, 4)), Rate(6, 5) // 7, str(2 - Rate(1, 3)), bool(Rate(0))]
['6/5', True, True, '6/5', '3/2', 8, '5/3', False]
>>> Code({"0": "0", "1": "01"})
raises BadMove('begins')
>>> Menu("01", Put("0"), Put("2"))
raises BadMenu(1)
>>> Prices("01", {"0": 0})
raises BadPrice(0)
'''

SETTINGS = r'''
>>> from flagfree.settings import Setting
>>> from flagfree.bars import Bars
>>> pair = Setting(Bars("01", "11"))
>>> [pair.outcomes("1", Code.plain("01")), pair.outcomes("1", Put("0")), pair.is_fit("1", Code.plain("01"))]
[(('0', '0', ''), ('1', '1', None)), ((None, '0', ''),), False]
>>> [[str(move) for move in pair.let("1")], pair.with_start("1").start, pair.changed({"0": "1", "1": "0"}).bars == Bars("01", "00")]
[['put 0'], '1', True]
>>> [str(pair), Setting.read(str(pair)) == pair]
['01 : 11 / 01 : code 0 0 1 1 ; put 0 ; put 1 / 01 : 1 1 / 1 1 / -', True]
>>> pair.with_start("0")
raises BadEnd('0')
'''

RULES_CODING = r'''
>>> from flagfree.bars import Bars
>>> from flagfree.coding import Step, coded, decoded, is_coding, paid, steps
>>> from flagfree.moves import Code, Put
>>> from flagfree.rules import By, Late, Table
>>> from flagfree.settings import Setting
>>> five = Setting(Bars("01", "111111"))
>>> plain = Code.plain("01")
>>> table = Table({"": plain, "1": plain, "11": plain, "111": plain, "1111": plain, "11111": Put("0")})
>>> [coded(table, five, "1111110"), paid(table, five, "1111110"), decoded(table, five, "11111010"), coded(Late(), five, "11111")]
['11111010', 8, '1111110', '11111']
>>> [table.reached(five), str(table)[-15:], Late()("11111", five) == Put("0"), is_coding(table, five, "111110"), is_coding(table, five, "1111101")]
[('', '1', '11', '111', '1111', '11111'), '; 11111 : put 0', True, False, True]
>>> [step.sign for step in steps(table, five, "111111")]
['1', '1', '1', '1', '1', None, '1']
>>> decoded(table, five, "1111110")
raises Refused(5)
>>> coded(By(lambda sent, setting: plain), five, "111111")
raises Stuck('11111')
'''

TRAPS = r'''
>>> from flagfree.bars import Bars
>>> from flagfree.settings import Setting
>>> from flagfree.traps import Open, Trap, judged, open_ends, rounds
>>> late, both = Setting(Bars("01", "110", "111")), Setting(Bars("01", "00", "11"))
>>> [rounds(late), open_ends(late), bool(judged(late)), rounds(both) == {"": 2, "0": 1, "1": 1}]
[{'11': 1}, ('', '1'), True, True]
>>> [judged(both) == Trap(rounds(both))]
[True]
>>> judged("01")
raises BadSetting('setting')
'''

ORDER = (BARS, MOVES_MENUS_PRICES, SETTINGS, RULES_CODING, TRAPS)


class ExamplesTest(unittest.TestCase):

    def check_value(self, line, row, names):
        """See that a line gives the value, or raises the error, that the row below it tells."""
        try:
            found = eval(line, names)
        except errors.FlagError as error:
            self.assertTrue(row.startswith("raises "), f"{line}: {told(error)}")
            self.assertTrue(same_error(error, eval(row[len("raises "):], vars(errors))), f"{line}: {told(error)}")
            return
        self.assertFalse(row.startswith("raises "), f"{line}: {found!r}")
        self.assertTrue(same(found, eval(row, {})), f"{line}: {found!r}")

    def test_examples(self):
        names = {}
        many = 0
        for block in ORDER:
            rows = block.strip().split("\n")
            for line, row in zip(rows, rows[1:] + [">>> "]):
                if line.startswith(">>> ") and row.startswith(">>> "):
                    exec(line[len(">>> "):], names)
                elif line.startswith(">>> "):
                    self.check_value(line[len(">>> "):], row, names)
                    many += 1
        self.assertEqual(many, 29)


if __name__ == "__main__":
    unittest.main()
