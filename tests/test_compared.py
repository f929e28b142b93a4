import random
import unittest

from common import check_paper, is_integer, others, refuses, same
from flagfree.bars import Bars
from flagfree.coding import coded, paid
from flagfree.compared import Behind, Never, compared, greatest_excess, same_price, same_text
from flagfree.errors import BadNumber, BadSetting, BadTable, Stuck
from flagfree.moves import Code, Put
from flagfree.prices import Prices
from flagfree.rules import Table
from flagfree.settings import Setting
from oracles import excess_rows, greatest_sums, plain_excess, texts
from samples import large_setting, sound_tables, table_pairs

PLAIN = Code.plain("01")
FIVE = Setting(Bars("01", "111111"))
LATE = Table({"": PLAIN, "1": PLAIN, "11": PLAIN, "111": PLAIN, "1111": PLAIN, "11111": Put("0")})
EAGER = Table({"": PLAIN, "1": Put("0")})
ALL = (compared, lambda *told: greatest_excess(*told, 3), same_price, same_text)


def some_texts(signs):
    """Contents, by length, then by signs."""
    return texts(signs, 7 if len(signs) == 2 else 4)


def excess_of(setting, one, other, content):
    return paid(one, setting, content) - paid(other, setting, content)


class ComparedTest(unittest.TestCase):

    def check_never(self, setting, one, other, rows, found):
        numbers = greatest_sums(rows)
        start = (setting.start, setting.start)
        self.assertIs(type(found), Never)
        self.assertTrue(same(found.numbers, numbers), str(setting))
        self.assertTrue(same(found.excess, numbers[start]))
        self.assertEqual(excess_of(setting, one, other, found.content), found.excess)
        for content in some_texts(setting.bars.signs):
            excess, _ = plain_excess(rows, start, content)
            self.assertLessEqual(excess, found.excess)
            if (len(content), content) < (len(found.content), found.content):
                self.assertLess(excess, found.excess)

    def check_behind(self, setting, rows, found):
        start = (setting.start, setting.start)
        self.assertIs(type(found), Behind)
        self.assertTrue(len(found.begin) <= len(rows) and 1 <= len(found.ring) <= len(rows))
        _, pair = plain_excess(rows, start, found.begin)
        excess, behind = plain_excess(rows, pair, found.ring)
        self.assertTrue(behind == pair and excess > 0)

    def test_by_a_plain_search(self):
        many = {Never: 0, Behind: 0, "more": 0}
        for setting, one, other in table_pairs(110) + table_pairs(110, 7) + table_pairs(110, 8):
            rows = excess_rows(setting, dict(one.moves), dict(other.moves))
            found = compared(setting, one, other)
            if greatest_sums(rows) is None:
                self.check_behind(setting, rows, found)
            else:
                self.check_never(setting, one, other, rows, found)
            self.assertEqual(compared(setting.with_start(setting.start), one, other), found)
            many[type(found)] += 1
            many["more"] += type(found) is Never and found.excess > 0
        self.assertGreater(min(many.values()), 15, str(many))

    def test_alike(self):
        for setting, one, _ in table_pairs(40):
            found = compared(setting, one, one)
            ends = [end for end in setting.bars.ends if (end, end) in found.numbers]
            self.assertEqual(found, Never(0, {(end, end): 0 for end in ends}, ""))
            self.assertEqual([same_price(setting, one, one), same_text(setting, one, one)], [None, None])
            self.assertEqual(greatest_excess(setting, one, one, 3), (0, setting.bars.signs[0] * 3))

    def test_by_hand(self):
        found = compared(FIVE, LATE, EAGER)
        self.assertEqual((found.excess, found.content, found.numbers[("", "")]), (0, "", 0))
        self.assertTrue(found.numbers[("11111", "1")] == 0 and len(found.numbers) == 6)
        grows = compared(FIVE, EAGER, LATE)
        self.assertIs(type(grows), Behind)
        self.assertEqual(compared(other=EAGER, one=LATE, setting=FIVE), found)

    def test_a_greatest_excess_that_comes_late(self):
        setting = Setting(Bars("01", "001", "0110", "1111"))
        rest = "0 : put 1 ; {} ; 01 : code 0 0 1 1 ; 11 : code 0 0 1 1 ; 011 : put 1 ; 111 : put 0"
        one, other = (Table.read("- : code 0 0 1 1 ; " + rest.format(row)) for row in ("1 : put 0", "1 : put 1"))
        numbers = {("", ""): 2, ("0", "0"): 0, ("1", "1"): 2, ("011", "011"): 0, ("011", "111"): 1}
        self.assertEqual(compared(setting, one, other), Never(2, numbers, "110"))
        self.assertEqual([greatest_excess(setting, one, other, n) for n in (2, 3, 4)],
                         [(1, "10"), (2, "110"), (2, "1100")])
        setting = Setting.read("01 : 00110 10011 / 01 : code 0 0 1 1 ; code 0 01 1 1 ; code 0 11 1 01 ; put 0 ; "
                               "put 1 / 01 : 2 5 / 8 4 / 1001")
        one = Table.read("- : put 1 ; 0 : code 0 0 1 1 ; 1 : code 0 11 1 01 ; 00 : code 0 01 1 1 ; 10 : code 0 0 1 1 ; "
                         "001 : code 0 0 1 1 ; 100 : code 0 01 1 1 ; 0011 : put 1 ; 1001 : put 0")
        other = Table.read("- : code 0 11 1 01 ; 0 : put 0 ; 1 : code 0 11 1 01 ; 00 : code 0 0 1 1 ; "
                           "10 : code 0 0 1 1 ; 001 : code 0 11 1 01 ; 100 : code 0 01 1 1 ; 0011 : put 1 ; "
                           "1001 : put 0")
        found = compared(setting, one, other)
        self.assertEqual((found.excess, found.content, len(found.numbers)), (3, "0010", 9))

    def test_a_large_setting(self):
        draw = random.Random(73)
        setting = large_setting()
        tables = sound_tables(draw, setting, 4)
        for one in tables:
            for other in tables:
                rows = excess_rows(setting, dict(one.moves), dict(other.moves))
                found = compared(setting, one, other)
                if greatest_sums(rows) is None:
                    self.check_behind(setting, rows, found)
                else:
                    self.check_never(setting, one, other, rows, found)


class GreatestExcessTest(unittest.TestCase):

    def test_by_a_plain_search(self):
        for setting, one, other in table_pairs(60, 79):
            for n in range(5):
                rows = [(-excess_of(setting, one, other, content), content)
                        for content in texts(setting.bars.signs, n) if len(content) == n]
                excess, content = min(rows)
                self.assertTrue(same(greatest_excess(setting, one, other, n), (-excess, content)))

    def test_many_signs(self):
        for setting, one, other in table_pairs(12, 83):
            rows = excess_rows(setting, dict(one.moves), dict(other.moves))
            start = (setting.start, setting.start)
            most = [dict.fromkeys(rows, 0)]
            for n in range(1, 401):
                most.append({pair: max(more + most[-1][behind] for _, more, behind in rows[pair]) for pair in rows})
            for n in (50, 399, 400):
                excess, content = greatest_excess(setting, one, other, n)
                self.assertEqual((excess, len(content)), (most[n][start], n))
                self.assertEqual(plain_excess(rows, start, content)[0], excess)
                # No sign of it could be a lesser one: what is had by then and at most behind it is less.
                had, pair = 0, start
                for k, sign in enumerate(content):
                    for one_sign, more, behind in rows[pair]:
                        if one_sign < sign:
                            self.assertLess(had + more + most[n - k - 1][behind], excess)
                    more, pair = plain_excess(rows, pair, sign)
                    had += more

    def test_by_hand(self):
        self.assertEqual([greatest_excess(FIVE, EAGER, LATE, n) for n in range(5)],
                         [(0, ""), (0, "0"), (1, "10"), (2, "110"), (3, "1110")])
        self.assertEqual(greatest_excess(FIVE, LATE, EAGER, 2), (0, "00"))
        self.assertEqual(greatest_excess(n=3, other=LATE, one=EAGER, setting=FIVE), (2, "110"))
        dear = Table({"": Put("1"), "1": PLAIN, "11": Put("0")})
        self.assertLess(greatest_excess(FIVE.with_start("1"), LATE, dear, 4)[0], 0)


class SameTest(unittest.TestCase):

    def check_least(self, found, unlike, signs):
        """See that what was found is the first of the contents that are unlike, as far as some go."""
        first = next((content for content in some_texts(signs) if unlike(content)), None)
        if found is None or len(found) > len(some_texts(signs)[-1]):
            self.assertIsNone(first)
        else:
            self.assertEqual(found, first)

    def test_by_all_contents_of_some_signs(self):
        many = [0, 0, 0]
        rows = table_pairs(60, 89)
        rows += [(setting.with_prices(None), one, other) for setting, one, other in rows]
        plain = Code.plain("012")
        for setting in (Setting(Bars("012", "00")), Setting(Bars("012", "00"), start="0")):
            tables = [Table({"": plain, "0": Put(sign)}) for sign in "12"]
            rows += [(setting, *tables), (setting.with_prices(Prices("012", {"1": 2})), *tables)]
        for setting, one, other in rows:
            price, text = same_price(setting, one, other), same_text(setting, one, other)
            self.check_least(price, lambda content: excess_of(setting, one, other, content) != 0, setting.bars.signs)
            self.check_least(text, lambda content: coded(one, setting, content) != coded(other, setting, content),
                             setting.bars.signs)
            many[0] += price is None and text is not None
            many[1] += price is None and text is None
            many[2] += price is not None and text is not None and text < price
        self.assertGreater(min(many), 0, str(many))

    def test_by_hand(self):
        self.assertEqual([same_price(FIVE, LATE, EAGER), same_text(FIVE, LATE, EAGER)], ["10", "10"])
        self.assertEqual([same_price(FIVE, LATE, LATE), same_text(other=LATE, one=LATE, setting=FIVE)], [None, None])
        three = Setting(Bars("012", "00"))
        plain = Code.plain("012")
        one, two = (Table({"": plain, "0": Put(sign)}) for sign in "12")
        self.assertEqual([same_price(three, one, two), same_text(three, one, two)], [None, "00"])
        dear = three.with_prices(Prices("012", {"2": 2}))
        self.assertEqual([same_price(dear, one, two), same_price(other=one, one=two, setting=dear)], ["00", "00"])
        more = two.with_move("7", plain)
        self.assertEqual([same_text(three, two, more), same_price(three, two, more)], [None, None])


class ErrorsTest(unittest.TestCase):

    def test_kinds(self):
        for value in others(lambda value: isinstance(value, Setting)):
            for work in ALL:
                refuses(self, BadSetting("setting"), work, value, None, None)
        for value in others(lambda value: isinstance(value, Table)):
            for work in ALL:
                refuses(self, BadTable("one"), work, FIVE, value, value)
                refuses(self, BadTable("one"), work, FIVE, value, Table({}))
                refuses(self, BadTable("other"), work, FIVE, Table({}), value)

    def test_stuck_and_puts_for_ever(self):
        stuck, endless = Table({"": PLAIN, "1": Put("1")}), Table({"": PLAIN, "1": Put("1"), "11": Put("0")})
        both = Setting(Bars("01", "00", "11"))
        puts = Table({"": PLAIN, "0": Put("1"), "1": Put("0")})
        for work in ALL:
            refuses(self, Stuck("11"), work, FIVE, stuck, Table({}))
            refuses(self, Stuck(""), work, FIVE, Table({}), stuck)
            refuses(self, Stuck("11"), work, FIVE, EAGER, stuck)
            refuses(self, BadTable("0"), work, both, puts, puts)
            refuses(self, BadTable("0"), work, both, puts, Table({}))
            refuses(self, Stuck(""), work, both, Table({}), puts)
            refuses(self, BadTable(""), work, FIVE, LATE, Table({"": Put("0")}))
            refuses(self, BadTable(""), work, FIVE, Table({"": Put("0")}), stuck)
        self.assertIs(type(compared(FIVE, endless, EAGER)), Behind)

    def test_numbers(self):
        for value in others(lambda value: is_integer(value) and 0 <= value <= 400):
            refuses(self, BadNumber(value), greatest_excess, FIVE, LATE, EAGER, value)
            refuses(self, Stuck(""), greatest_excess, FIVE, LATE, Table({}), value)
            refuses(self, BadTable("other"), greatest_excess, FIVE, LATE, 7, value)
        refuses(self, BadNumber(401), greatest_excess, FIVE, LATE, EAGER, 401)
        self.assertEqual(len(greatest_excess(FIVE, LATE, EAGER, 400)[1]), 400)


class PaperTest(unittest.TestCase):

    def test_papers(self):
        check_paper(self, Never, ("excess", "numbers", "content"))
        check_paper(self, Behind, ("begin", "ring"), False)

    def test_numbers_belong_to_the_caller(self):
        compared(FIVE, LATE, EAGER).numbers.clear()
        self.assertEqual(len(compared(FIVE, LATE, EAGER).numbers), 6)


if __name__ == "__main__":
    unittest.main()
