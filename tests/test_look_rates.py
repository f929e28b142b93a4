import random
import unittest

from common import near_dicts, others, refuses, values
from flagfree.bars import Bars
from flagfree.coding import coded, paid
from flagfree.errors import BadSetting, BadTable, Stuck, TooMany
from flagfree.look_rates import shows_numbers, shows_ring, shows_worst
from flagfree.moves import Code, Put
from flagfree.prices import Rate
from flagfree.rates import Worst, worst
from flagfree.rules import Table
from flagfree.settings import Setting
from oracles import is_text, keeps, slow_end, slow_worst, texts
from samples import mixed_settings, some_tables

PLAIN = Code.plain("01")
FIVE = Setting(Bars("01", "111111"))
ONES = Table({"": PLAIN, "1": PLAIN, "11": PLAIN, "111": PLAIN, "1111": PLAIN, "11111": Put("0")})
STEPS = {"1" * k: k for k in range(6)}


def some_worst(many):
    """Settings with tables that send all contents."""
    draw = random.Random(61)
    rows = []
    for setting in mixed_settings(many):
        for table in some_tables(draw, setting, 2):
            if slow_worst(setting, dict(table.moves)) is not None:
                rows.append((setting, table))
    return rows


def is_ring(setting, table, price, weight, begin, ring):
    """Whether a ring comes back to its end at just this rate."""
    signs = setting.bars.signs
    if not is_text(begin, signs) or not is_text(ring, signs) or ring == "":
        return False
    try:
        ahead, sent = coded(table, setting, begin), coded(table, setting, begin + ring)
    except (Stuck, TooMany):
        return False
    words = setting.bars.words
    if slow_end(setting.start + ahead, words) != slow_end(setting.start + sent, words):
        return False
    more = paid(table, setting, begin + ring) - paid(table, setting, begin)
    return more * weight == price * setting.prices.weigh(ring)


class ShowsNumbersTest(unittest.TestCase):

    def test_by_the_rows(self):
        draw = random.Random(63)
        many = [0, 0]
        for setting, table in some_worst(150):
            found = worst(setting, table)
            rate = found.rate
            self.assertIs(shows_numbers(setting, table, rate, found.numbers), True)
            keys = list(setting.bars.ends) + ["q", None, 7, ("",)]
            rows = near_dicts(found.numbers, keys, [0, 5, 10 ** 35, -1, True, None, "1"])
            rows.append({end: number + 7 for end, number in found.numbers.items()})
            for numbers in rows[-1:] + draw.sample(rows, min(len(rows), 25)):
                for other in (rate, Rate(rate.price * 2, rate.weight), Rate(rate.price, rate.weight + 1), rate + 1):
                    right = keeps(setting, other.price, other.weight, table, numbers)
                    self.assertIs(shows_numbers(setting, table, other, numbers), right)
                    many[right is False] += 1
        self.assertGreater(min(many), 300)

    def test_by_hand(self):
        self.assertIs(shows_numbers(FIVE, ONES, Rate(6, 5), STEPS), True)
        self.assertIs(shows_numbers(FIVE, ONES, Rate(6, 5), {end: STEPS[end] + 3 for end in STEPS}), True)
        self.assertIs(shows_numbers(FIVE, ONES, Rate(2), {end: 1 for end in STEPS}), False)
        self.assertIs(shows_numbers(FIVE, ONES, Rate(2), {**{end: 1 for end in STEPS}, "11111": 2}), True)
        self.assertIs(shows_numbers(FIVE, ONES, Rate(2), {**{end: 0 for end in STEPS}, "11111": 1}), True)
        self.assertIs(shows_numbers(FIVE, ONES, Rate(1), STEPS), False)
        self.assertIs(shows_numbers(FIVE, ONES, Rate(11, 10), {end: 2 * STEPS[end] for end in STEPS}), False)
        for end in STEPS:
            for worth in (STEPS[end] + 2, -1, True, None, str(STEPS[end]), [STEPS[end]]):
                self.assertIs(shows_numbers(FIVE, ONES, Rate(6, 5), {**STEPS, end: worth}), False)
            less = {one: STEPS[one] for one in STEPS if one != end}
            self.assertIs(shows_numbers(FIVE, ONES, Rate(6, 5), less), False)
        self.assertIs(shows_numbers(FIVE, ONES, Rate(6, 5), {**STEPS, "0": 0}), False)

    def test_other_ends_and_starts(self):
        table = Table({"": PLAIN, "1": Put("0"), "11": PLAIN, "111": PLAIN})
        self.assertIs(shows_numbers(FIVE, table, Rate(2), {"": 0, "1": 1}), True)
        self.assertIs(shows_numbers(FIVE, table, Rate(2), {"": 0, "1": 1, "11": 0}), False)
        more = table.with_move("111", Put("0"))
        self.assertIs(shows_numbers(FIVE, more, Rate(2), {"": 0, "1": 1, "11": 0, "111": 1}), True)
        self.assertIs(shows_numbers(FIVE.with_start("11"), table, Rate(2), {"": 0, "1": 1}), False)

    def test_moves(self):
        for move in (Code({"0": "1", "1": "0"}), Put("2"), Put("1")):
            self.assertIs(shows_numbers(FIVE, ONES.with_move("11111", move), Rate(6, 5), STEPS), False)
        self.assertIs(shows_numbers(FIVE, ONES.with_move("11111", PLAIN), Rate(6, 5), STEPS), False)
        self.assertIs(shows_numbers(FIVE, Table({}), Rate(6, 5), STEPS), False)

    def test_values(self):
        for value in values():
            self.assertIs(shows_numbers(FIVE, ONES, Rate(6, 5), value), False)
            self.assertIs(shows_numbers(FIVE, ONES, value, STEPS), value == Rate(6, 5))
            self.assertIs(shows_numbers(FIVE, ONES, value, value), False)
            free = Setting(Bars("01"))
            right = type(value) is int and value >= 0
            self.assertIs(shows_numbers(free, Table({"": PLAIN}), Rate(1), {"": value}), right)


class ShowsRingTest(unittest.TestCase):

    def test_by_the_definition(self):
        draw = random.Random(67)
        many = [0, 0]
        for setting, table in some_worst(100):
            found = worst(setting, table)
            self.assertIs(shows_ring(setting, table, found.rate, found.begin, found.ring), True)
            contents = texts(setting.bars.signs, 3)
            for _ in range(12):
                begin, ring = draw.choice(contents), draw.choice(contents)
                rates = [found.rate, Rate(1)]
                if ring != "":
                    more = paid(table, setting, begin + ring) - paid(table, setting, begin)
                    rates.append(Rate(more, setting.prices.weigh(ring)))
                for rate in rates:
                    right = is_ring(setting, table, rate.price, rate.weight, begin, ring)
                    self.assertIs(shows_ring(setting, table, rate, begin, ring), right)
                    many[right is False] += 1
        self.assertGreater(min(many), 100)

    def test_tables_that_do_not_send_all_contents(self):
        draw = random.Random(71)
        many = [0, 0]
        for setting in mixed_settings(150, 73):
            for table in some_tables(draw, setting, 2):
                contents = texts(setting.bars.signs, 3)
                for _ in range(8):
                    begin, ring, rate = draw.choice(contents), draw.choice(contents), Rate(1)
                    try:
                        more = paid(table, setting, begin + ring) - paid(table, setting, begin)
                        rate = Rate(more, setting.prices.weigh(ring) or 1)
                    except (Stuck, TooMany):
                        pass
                    right = is_ring(setting, table, rate.price, rate.weight, begin, ring)
                    self.assertIs(shows_ring(setting, table, rate, begin, ring), right)
                    many[right is False] += 1
        self.assertGreater(min(many), 100)

    def test_by_hand(self):
        self.assertIs(shows_ring(FIVE, ONES, Rate(6, 5), "1", "11111"), True)
        self.assertIs(shows_ring(FIVE, ONES, Rate(6, 5), "11111", "1111111111"), True)
        self.assertIs(shows_ring(FIVE, ONES, Rate(1), "", "0"), True)
        self.assertIs(shows_ring(FIVE, ONES, Rate(1), "", "1110"), True)
        self.assertIs(shows_ring(FIVE, ONES, Rate(7, 6), "", "111110"), True)
        for rate, begin, ring in ((Rate(6, 5), "", "11111"), (Rate(6, 5), "1", ""), (Rate(1), "1", "11111"),
                                  (Rate(6, 5), "1", "1111"), (Rate(7, 5), "1", "11111"), (Rate(1), "", "1"),
                                  (Rate(1), "", ""), (Rate(0), "", ""), (Rate(1), "2", "0"), (Rate(1), "", "a")):
            self.assertIs(shows_ring(FIVE, ONES, rate, begin, ring), False)

    def test_puts_ahead_of_the_ring_count(self):
        eager = Table({"": PLAIN, "1": Put("0")})
        self.assertIs(shows_ring(FIVE, eager, Rate(2), "1", "1"), True)
        self.assertIs(shows_ring(FIVE, eager, Rate(1), "1", "1"), False)
        self.assertIs(shows_ring(FIVE, eager, Rate(2), "", "1"), False)

    def test_stuck_and_too_many(self):
        both = Setting(Bars("01", "00", "11"))
        table = Table({"": PLAIN, "0": Put("1"), "1": Put("0")})
        self.assertIs(shows_ring(both, table, Rate(1), "0", "0"), False)
        self.assertIs(shows_ring(both, Table({"": PLAIN}), Rate(1), "0", "0"), False)
        pair = Setting(Bars("01", "11"))
        self.assertIs(shows_ring(pair, Table({"": PLAIN, "1": PLAIN}), Rate(1), "1", "01"), True)
        self.assertIs(shows_ring(pair, Table({"": PLAIN, "1": PLAIN}), Rate(1), "1", "1"), False)

    def test_values(self):
        free, plain = Setting(Bars("01")), Table({"": PLAIN})
        for value in values():
            self.assertIs(shows_ring(free, plain, value, "", "0"), False)
            self.assertIs(shows_ring(free, plain, Rate(1), value, "0"), is_text(value, "01"))
            self.assertIs(shows_ring(free, plain, Rate(1), "", value), is_text(value, "01") and value != "")


class ShowsWorstTest(unittest.TestCase):

    def test_what_worst_tells(self):
        for setting, table in some_worst(60):
            found = worst(setting, table)
            rate, numbers, begin, ring = found.rate, found.numbers, found.begin, found.ring
            self.assertIs(shows_worst(setting, table, found), True)
            greater = {end: numbers[end] + 10 ** 20 for end in numbers}
            self.assertIs(shows_worst(setting, table, Worst(rate, greater, begin, ring)), True)
            self.assertIs(shows_worst(setting, table, Worst(rate, numbers, begin + ring, ring + ring)), True)
            for other in (Rate(rate.price, rate.weight + 1), rate + 1, rate + Rate(1, 1000), rate - Rate(1, 1000), 1):
                for one in (numbers, greater):
                    self.assertIs(shows_worst(setting, table, Worst(other, one, begin, ring)), False)
            less = {end: numbers[end] for end in numbers if end != setting.start}
            self.assertIs(shows_worst(setting, table, Worst(rate, less, begin, ring)), False)
            self.assertIs(shows_worst(setting, table, Worst(rate, numbers, begin, "")), False)
            self.assertIs(shows_worst(setting, table, Worst(rate, {**numbers, "q": 0}, begin, ring)), False)

    def test_values(self):
        found = worst(FIVE, ONES)
        for value in values():
            self.assertIs(shows_worst(FIVE, ONES, value), False)
            self.assertIs(shows_worst(FIVE, ONES, Worst(value, found.numbers, "1", "11111")), value == Rate(6, 5))
            self.assertIs(shows_worst(FIVE, ONES, Worst(found.rate, value, "1", "11111")), False)
            self.assertIs(shows_worst(FIVE, ONES, Worst(found.rate, found.numbers, value, "11111")),
                          is_ring(FIVE, ONES, 6, 5, value, "11111"))
            self.assertIs(shows_worst(FIVE, ONES, Worst(found.rate, found.numbers, "1", value)), False)

    def test_both_must_show_it(self):
        self.assertIs(shows_worst(FIVE, ONES, Worst(Rate(1), STEPS, "", "0")), False)
        self.assertIs(shows_worst(FIVE, ONES, Worst(Rate(6, 5), STEPS, "", "0")), False)
        self.assertIs(shows_worst(FIVE, ONES, Worst(Rate(6, 5), {**STEPS, "": 1}, "1", "11111")), False)
        self.assertIs(shows_worst(FIVE, ONES, Worst(Rate(6, 5), STEPS, "1", "11111")), True)

    def test_errors_in_order(self):
        for value in others(lambda value: isinstance(value, Setting)):
            refuses(self, BadSetting("setting"), shows_numbers, value, 7, 7, 7)
            refuses(self, BadSetting("setting"), shows_ring, value, 7, 7, 7, 7)
            refuses(self, BadSetting("setting"), shows_worst, value, 7, 7)
        for value in others(lambda value: isinstance(value, Table)):
            refuses(self, BadTable("table"), shows_numbers, FIVE, value, 7, 7)
            refuses(self, BadTable("table"), shows_ring, FIVE, value, 7, 7, 7)
            refuses(self, BadTable("table"), shows_worst, FIVE, value, 7)

    def test_by_name(self):
        self.assertIs(shows_numbers(numbers=STEPS, rate=Rate(6, 5), table=ONES, setting=FIVE), True)
        self.assertIs(shows_ring(ring="11111", begin="1", rate=Rate(6, 5), table=ONES, setting=FIVE), True)
        self.assertIs(shows_worst(value=worst(FIVE, ONES), table=ONES, setting=FIVE), True)


if __name__ == "__main__":
    unittest.main()
