import random
import unittest

from common import near_dicts, others, refuses, same, values
from flagfree.bars import Bars
from flagfree.compared import Behind, Never, compared
from flagfree.errors import BadSetting, BadTable, Stuck
from flagfree.look_compared import shows_compared
from flagfree.menus import Menu
from flagfree.moves import Code, Put
from flagfree.rules import Table
from flagfree.settings import Setting
from oracles import excess_rows, is_text, plain_excess, plain_turn, price_of, sends_all, texts
from samples import table_pairs

PLAIN = Code.plain("01")
FIVE = Setting(Bars("01", "111111"))
LATE = Table({"": PLAIN, "1": PLAIN, "11": PLAIN, "111": PLAIN, "1111": PLAIN, "11111": Put("0")})
EAGER = Table({"": PLAIN, "1": Put("0")})
START = ("", "")


def goes_on(setting, table, end):
    """Whether a table goes on to its next code from an end, whatever the content sign."""
    moves = dict(table.moves)
    seen = []
    while end in moves and end not in seen and moves[end] in setting.menu.moves and setting.is_fit(end, moves[end]):
        if isinstance(moves[end], Code):
            return True
        seen.append(end)
        end = setting.outcomes(end, moves[end])[0][2]
    return False


def is_right(setting, one, other, value):
    """Whether a Never is right, by its definition."""
    numbers, start = value.numbers, (setting.start, setting.start)
    if type(value.excess) is not int or type(numbers) is not dict or start not in numbers:
        return False
    for pair, number in numbers.items():
        if type(pair) is not tuple or len(pair) != 2 or any(end not in setting.bars.ends for end in pair):
            return False
        if type(number) is not int or number < 0:
            return False
    for pair, number in numbers.items():
        if not goes_on(setting, one, pair[0]) or not goes_on(setting, other, pair[1]):
            return False
        for sign in setting.bars.signs:
            sent, end = plain_turn(setting, dict(one.moves), pair[0], sign)
            less, beside = plain_turn(setting, dict(other.moves), pair[1], sign)
            more = price_of(setting, sent) - price_of(setting, less)
            if (end, beside) not in numbers or number < more + numbers[end, beside]:
                return False
    if value.excess != numbers[start] or not is_text(value.content, setting.bars.signs):
        return False
    rows = excess_rows(setting, dict(one.moves), dict(other.moves))
    return plain_excess(rows, start, value.content)[0] == value.excess


def is_behind(setting, one, other, value):
    """Whether a Behind is right, by its definition."""
    if not is_text(value.begin, setting.bars.signs) or not is_text(value.ring, setting.bars.signs) or not value.ring:
        return False
    rows = excess_rows(setting, dict(one.moves), dict(other.moves))
    _, pair = plain_excess(rows, (setting.start, setting.start), value.begin)
    excess, behind = plain_excess(rows, pair, value.ring)
    return behind == pair and excess > 0


class ShowsComparedTest(unittest.TestCase):

    def check(self, setting, one, other, value, right):
        self.assertIs(shows_compared(setting, one, other, value), right, f"{setting} {one} {other}")

    def near(self, setting, found):
        """Nevers near to one."""
        pairs = [(one, other) for one in setting.bars.ends for other in setting.bars.ends]
        keys = pairs + [None, 7, "", (), ("",), ("", "", ""), ("q", ""), (setting.start, "q"), (0, 0), (None, None)]
        rows = [Never(found.excess, numbers, found.content)
                for numbers in near_dicts(found.numbers, keys, [0, 3, 10 ** 35, -1, True, None, "1"])]
        rows.append(Never(found.excess, {pair: number + 2 for pair, number in found.numbers.items()}, found.content))
        rows += [Never(excess, found.numbers, found.content) for excess in (found.excess + 1, found.excess - 1)]
        rows += [Never(found.excess, found.numbers, content) for content in texts(setting.bars.signs, 3)]
        raised = {pair: number + 2 for pair, number in found.numbers.items()}
        rows += [Never(found.excess + 2, raised, content) for content in ("", found.content)]
        return rows

    def test_never_by_the_rows(self):
        draw = random.Random(97)
        many = [0, 0]
        for setting, one, other in table_pairs(40) + table_pairs(40, 7):
            found = compared(setting, one, other)
            if not found:
                continue
            self.check(setting, one, other, found, True)
            rows = self.near(setting, found)
            for value in draw.sample(rows, min(len(rows), 40)):
                right = is_right(setting, one, other, value)
                self.check(setting, one, other, value, right)
                many[right is False] += 1
        self.assertGreater(min(many), 300, str(many))

    def test_behind_by_the_rows(self):
        draw = random.Random(101)
        many = [0, 0]
        for setting, one, other in table_pairs(60):
            found = compared(setting, one, other)
            if not found:
                self.check(setting, one, other, found, True)
                self.check(setting, one, other, Behind(found.begin + 2 * found.ring, 3 * found.ring), True)
                self.check(setting, one, other, Behind(found.begin, ""), False)
            rows = texts(setting.bars.signs, 3)
            for _ in range(12):
                value = Behind(draw.choice(rows), draw.choice(rows))
                right = is_behind(setting, one, other, value)
                self.check(setting, one, other, value, right)
                many[right is False] += 1
        self.assertGreater(min(many), 30, str(many))

    def test_by_hand(self):
        less = compared(FIVE, LATE, EAGER)
        self.check(FIVE, LATE, EAGER, less, True)
        for content in ("0", "1", "01", "000001", "0" * 2000):
            self.check(FIVE, LATE, EAGER, Never(0, less.numbers, content), True)
        self.check(FIVE, LATE, EAGER, Never(0, less.numbers, "10"), False)
        self.check(FIVE, LATE, EAGER, Never(0, less.numbers, "2"), False)
        self.check(FIVE, LATE, EAGER, Never(False, less.numbers, ""), False)
        self.check(FIVE, EAGER, LATE, Never(0, less.numbers, ""), False)
        self.check(FIVE, EAGER, LATE, Behind("1", "01"), True)
        self.check(FIVE, EAGER, LATE, Behind("1" * 1000, "01" * 1000), False)
        self.check(FIVE, EAGER, LATE, Behind("1" * 1000 + "0" * 20, "10" * 990), True)
        self.check(FIVE, EAGER, LATE, Behind("", "11111"), False)
        self.check(FIVE, EAGER, LATE, Behind("", "0"), False)
        self.check(FIVE, LATE, EAGER, Behind("1", "01"), False)

    def test_pairs_that_never_come(self):
        numbers = compared(FIVE, LATE, EAGER).numbers
        for pair, number, right in ((("11", ""), 0, True), (("11111", ""), 0, False), (("11111", ""), 1, True)):
            self.assertFalse(pair in numbers)
            self.assertIs(is_right(FIVE, LATE, EAGER, Never(0, {**numbers, pair: number}, "")), right)
            self.check(FIVE, LATE, EAGER, Never(0, {**numbers, pair: number}, ""), right)
        # Where a table tells no move, one that is not in the menu, or one that is not fit, no number is right.
        further = {**numbers, ("1", "11"): 10 ** 35}
        self.check(FIVE, LATE, EAGER, Never(0, further, ""), False)
        self.check(FIVE, LATE, EAGER.with_move("11", Put("0")), Never(0, further, ""), True)
        self.check(FIVE, LATE, EAGER.with_move("11", Put("1")), Never(0, further, ""), False)
        lacking = FIVE.with_menu(Menu("01", PLAIN, Put("0")))
        ones = EAGER.with_move("11", Put("1")).with_move("111", Put("0"))
        self.check(FIVE, LATE, ones, Never(0, further, ""), True)
        self.check(lacking, LATE, ones, Never(0, further, ""), False)
        barred = EAGER.with_move("11111", PLAIN)
        self.check(FIVE, LATE, barred, Never(0, {**numbers, ("1", "11111"): 10 ** 35}, ""), False)

    def test_puts_for_ever_at_pairs_that_never_come(self):
        free = Setting(Bars("01", "111", "000"))
        table = Table({"": PLAIN, "0": Put("1"), "1": PLAIN, "11": Put("0"), "00": Put("1")})
        self.assertTrue(sends_all(free, dict(table.moves)))
        found = compared(free, table, table)
        self.assertFalse(("00", "00") in found.numbers)
        self.check(free, table, table, Never(0, {**found.numbers, ("00", "00"): 0}, ""), True)
        other = table.with_move("00", PLAIN)
        self.check(free, table, other, Never(0, {**found.numbers, ("00", "00"): 9}, ""), False)
        both = Setting(Bars("01", "111", "001"))
        rounds = Table({"": PLAIN, "0": Put("1"), "1": PLAIN, "11": Put("0"), "00": Put("0")})
        self.assertTrue(sends_all(both, dict(rounds.moves)))
        told = compared(both, rounds, rounds)
        self.check(both, rounds, rounds, told, True)
        self.assertFalse(("00", "00") in told.numbers)
        self.check(both, rounds, rounds, Never(0, {**told.numbers, ("00", "00"): 7}, ""), False)

    def test_values(self):
        found = compared(FIVE, LATE, EAGER)
        for value in values():
            self.check(FIVE, LATE, EAGER, value, False)
            self.check(FIVE, LATE, EAGER, Never(value, found.numbers, ""), same(value, 0))
            self.check(FIVE, LATE, EAGER, Never(0, value, ""), False)
            self.check(FIVE, LATE, EAGER, Never(0, {**found.numbers, ("", ""): value}, ""), same(value, 0))
            right = is_text(value, "01") and is_right(FIVE, LATE, EAGER, Never(0, found.numbers, value))
            self.check(FIVE, LATE, EAGER, Never(0, found.numbers, value), right)
            self.check(FIVE, EAGER, LATE, Behind(value, "01"), is_behind(FIVE, EAGER, LATE, Behind(value, "01")))
            self.check(FIVE, EAGER, LATE, Behind("1", value), is_behind(FIVE, EAGER, LATE, Behind("1", value)))

    def test_errors_in_order(self):
        for value in others(lambda value: isinstance(value, Setting)):
            refuses(self, BadSetting("setting"), shows_compared, value, None, None, None)
        for value in others(lambda value: isinstance(value, Table)):
            refuses(self, BadTable("one"), shows_compared, FIVE, value, value, None)
            refuses(self, BadTable("other"), shows_compared, FIVE, Table({}), value, None)
        for value in values():
            refuses(self, Stuck(""), shows_compared, FIVE, Table({}), LATE, value)
            refuses(self, Stuck("1"), shows_compared, FIVE, LATE, Table({"": PLAIN}), value)
            refuses(self, BadTable(""), shows_compared, FIVE, Table({"": Put("0")}), Table({}), value)
        self.assertIs(shows_compared(value=Behind("1", "01"), other=LATE, one=EAGER, setting=FIVE), True)


if __name__ == "__main__":
    unittest.main()
