import itertools
import random
import unittest

from common import check_paper, is_integer, others, refuses, same, values
from flagfree.bars import Bars
from flagfree.errors import BadBars, BadNumber, BadSetting, BadSign, BadWord, NoWay, TooMany
from flagfree.flags import (Chosen, can_join, cheapest, flags_of, needless, price_range, rate_by_starts, weight_range,
                            without_needless)
from flagfree.least import least_rate
from flagfree.menus import Menu
from flagfree.moves import Code, Put
from flagfree.prices import Prices, Rate
from flagfree.settings import Setting
from oracles import is_text, is_word, slow_rounds, texts
from samples import large_setting, mixed_settings, open_settings, some_settings

PAIR = Setting(Bars("01", "11"))
WIDE = Setting(Bars("01", "11", "0000"))
BOTH = Setting(Bars("01", "00", "11"))


def with_words(setting, words):
    """The setting with other barred words, begun at the longest ending of its start that is an end of them."""
    bars = Bars(setting.bars.signs, *words)
    start = next(setting.start[k:] for k in range(len(setting.start) + 1) if setting.start[k:] in bars.ends)
    return Setting(bars, setting.menu, setting.prices, start)


def rate_of(setting, words):
    return least_rate(with_words(setting, words))


def some(many, seed=199):
    return mixed_settings(many, seed) + some_settings(many)


class NeedlessTest(unittest.TestCase):

    def test_by_a_plain_search(self):
        many = [0, 0, 0]
        for setting in some(120):
            rate, words = least_rate(setting), setting.bars.words
            found = tuple(word for word in words if rate_of(setting, [one for one in words if one != word]) == rate)
            self.assertTrue(same(needless(setting), found), str(setting))
            left = list(words)
            for word in words:
                if rate_of(setting, [one for one in left if one != word]) == rate:
                    left.remove(word)
            told = without_needless(setting)
            self.assertTrue(type(told) is Bars and told == Bars(setting.bars.signs, *left))
            many[len(found) > 0] += 1
            many[2] += len(words) - len(left) < len(found)
        self.assertGreater(min(many), 10, str(many))

    def test_by_hand(self):
        self.assertEqual((needless(WIDE), without_needless(WIDE)), (("0000",), Bars("01", "11")))
        self.assertEqual((needless(setting=PAIR), without_needless(setting=PAIR)), ((), PAIR.bars))
        self.assertEqual((needless(Setting(Bars("01"))), without_needless(Setting(Bars("01")))), ((), Bars("01")))

    def test_lost_starts(self):
        # None stays None: of more than two runs each one is needless, but not two of them.
        setting = Setting(Bars("012", "00", "11", "22", "012"))
        lost = setting.with_menu(Menu("012", Code.plain("012")))
        self.assertIsNone(least_rate(lost))
        self.assertEqual(needless(lost), ("00", "012", "11", "22"))
        self.assertEqual(without_needless(lost), Bars("012", "22"))
        self.assertEqual((needless(BOTH), without_needless(BOTH)), ((), BOTH.bars))

    def test_the_start_moves(self):
        # Without 0011 the start 001 is none of the ends: its longest ending that is one is 1.
        setting = Setting(Bars("01", "0011", "10"), start="001")
        self.assertEqual(with_words(setting, ["10"]).start, "1")
        # From 00 each content sign costs 3, from the empty end 2: without 100000 the start is 00.
        told = Setting(Bars("01", "0011", "00101", "100000"), start="100")
        self.assertEqual([str(least_rate(told.with_start(end))) for end in ("100", "00", "")], ["3", "3", "2"])
        self.assertEqual((needless(told), without_needless(told)), (("100000",), Bars("01", "0011", "00101")))
        self.assertEqual(needless(told.with_start("")), ("100000",))

    def test_the_own_start_is_asked_however_many_words_are_out(self):
        # 100 is an end again where only the second word is out, whatever was tried ahead of it.
        told = Setting(Bars("01", "0011", "00101", "100000", "10011011"), start="100")
        self.assertEqual(without_needless(told), Bars("01", "0011", "00101"))
        for setting in some(200, 223):
            left = list(setting.bars.words)
            for word in setting.bars.words:
                rest = [one for one in left if one != word]
                if rate_of(setting, rest) == least_rate(setting):
                    left = rest
            self.assertEqual(without_needless(setting), Bars(setting.bars.signs, *left))

class CanJoinTest(unittest.TestCase):

    def test_by_a_plain_search(self):
        draw = random.Random(227)
        many = [0, 0]
        for setting in some(60):
            words = draw.sample(texts(setting.bars.signs, 5)[1:], 12)
            words += words[:2]
            rate, barred = least_rate(setting), setting.bars.words
            try:
                rows = [word for word in dict.fromkeys(words) if not any(one in word for one in barred)]
                fits = [word for word in rows if rate_of(setting, [*barred, word]) == rate]
            except TooMany:
                continue
            self.assertTrue(same(can_join(setting, words), tuple(sorted(fits))))
            self.assertTrue(same(can_join(setting, tuple(words)), tuple(sorted(fits))))
            many[0] += len(fits)
            many[1] += len(rows) - len(fits)
        self.assertGreater(min(many), 60, str(many))

    def test_by_hand(self):
        self.assertEqual(can_join(PAIR, ["0000", "000", "11"]), ("0000",))
        self.assertEqual(can_join(words=("0000", "111", "0000", "00000"), setting=PAIR), ("0000", "00000"))
        self.assertEqual(can_join(PAIR, []), ())
        self.assertEqual(can_join(BOTH, ["01", "10", "0", "1", "00"]), ("0", "01", "1", "10"))
        words = ["0000"]
        can_join(PAIR, words)
        self.assertEqual(words, ["0000"])

    def test_a_new_word_counts_beside_all(self):
        eight = ["0001", "0010", "0100", "1000", "0111", "1011", "1101", "1110"]
        setting = Setting(Bars("01", *eight))
        refuses(self, TooMany("words", 8), can_join, setting, ["00001", "000"])
        refuses(self, TooMany("words", 8), can_join, setting, ["000"])
        self.assertEqual(can_join(setting, ["00001"]), ())
        ends = Setting(Bars("012", "00000000", "11111111", "22222222"))
        refuses(self, TooMany("ends", 24), can_join, ends, ["0000000", "12121212"])
        self.assertEqual(can_join(ends, ["00000000", "11111111"]), ())
        refuses(self, TooMany("ends", 24), can_join, ends, ["0", "01010101", "12121212"])

    def test_errors_in_order(self):
        for value in others(lambda value: isinstance(value, (list, tuple))):
            refuses(self, BadBars("words"), can_join, PAIR, value)
            refuses(self, BadBars("words"), cheapest, PAIR, value, None)
        for value in others(lambda value: is_word(value, "01")):
            refuses(self, BadWord(value), can_join, PAIR, ["0", value, ""])
            refuses(self, BadWord(value), cheapest, PAIR, ("0", value, ""), None)
        nine = ["0" * k for k in range(2, 9)]
        refuses(self, BadWord("2"), can_join, Setting(Bars("01", "0001")), [*nine, "2"])


class RateByStartsTest(unittest.TestCase):

    def test_all_ends(self):
        for setting in some(60):
            expected = {end: least_rate(setting.with_start(end)) for end in setting.bars.ends}
            self.assertTrue(same(rate_by_starts(setting), expected))
            lost = slow_rounds(setting)
            self.assertEqual({end for end in expected if expected[end] is None}, set(lost))

    def test_by_hand(self):
        self.assertEqual(rate_by_starts(PAIR), {"": Rate(2), "1": Rate(2)})
        self.assertEqual(rate_by_starts(setting=BOTH), {"": None, "0": None, "1": None})
        rate_by_starts(PAIR).clear()
        self.assertEqual(len(rate_by_starts(PAIR)), 2)


class CheapestTest(unittest.TestCase):

    def test_by_a_plain_search(self):
        draw = random.Random(229)
        many = [0, 0, 0]
        for setting in some(40):
            words = draw.sample(texts(setting.bars.signs, 4)[1:], draw.randint(1, 5))
            unlike = sorted(words)
            for n in range(1, len(unlike) + 1):
                rows = [(rate_of(setting, row), row) for row in itertools.combinations(unlike, n)]
                rates = [rate for rate, _ in rows if rate is not None]
                least = None
                for rate in rates:
                    least = rate if least is None or rate < least else least
                first = [row for rate, row in rows if rate == least][0]
                self.assertTrue(same(cheapest(setting, [*words, words[0]], n), Chosen(first, least)))
                many[least is None] += 1
                many[2] += len([rate for rate, _ in rows if rate == least]) > 1
        self.assertGreater(min(many), 10, str(many))

    def test_by_hand(self):
        self.assertEqual(cheapest(PAIR, ["000", "010", "11"], 2), Chosen(("000", "010"), Rate(2)))
        self.assertEqual(cheapest(many=1, words=("11", "000", "11"), setting=BOTH), Chosen(("000",), Rate(3, 2)))
        self.assertEqual(cheapest(PAIR, ["11", "00"], 2), Chosen(("00", "11"), None))
        self.assertEqual(cheapest(PAIR, ["0", "1"], 1), Chosen(("0",), None))
        # All of the words stand there, also one that holds another one.
        self.assertEqual(cheapest(PAIR, ["111", "11"], 2), Chosen(("11", "111"), Rate(2)))

    def test_the_start_moves(self):
        setting = Setting(Bars("01", "0011", "10"), start="001")
        self.assertEqual(cheapest(setting, ["11", "000"], 1).rate,
                         least_rate(Setting(Bars("01", "000"))))
        there = Setting(Bars("01", "110", "111"), start="11")
        self.assertEqual(cheapest(there, ["110", "1111"], 1), Chosen(("1111",), Rate(4, 3)))
        self.assertIsNone(cheapest(there, ["110", "111"], 2).rate)

    def test_errors_in_order(self):
        seven = ["0" * k + "1" for k in range(7)]
        refuses(self, TooMany("words", 6), cheapest, PAIR, seven, None)
        self.assertEqual(len(cheapest(PAIR, seven[1:] * 3, 2).words), 2)
        for value in others(lambda value: is_integer(value) and 1 <= value <= 2):
            refuses(self, BadNumber(value), cheapest, PAIR, ["0", "11", "0"], value)
            refuses(self, BadNumber(value), cheapest, PAIR, [], value)
        refuses(self, BadNumber(1), cheapest, PAIR, (), 1)
        four = ["00000000", "11111111", "22222222", "01201201"]
        free = Setting(Bars("012"))
        refuses(self, TooMany("ends", 24), cheapest, free, four, 1)
        refuses(self, BadNumber(5), cheapest, free, four, 5)
        # Together they have few ends, as one stands in the others; three of them have too many.
        refuses(self, TooMany("ends", 24), cheapest, free, [*four, "0", "1"], 4)
        self.assertEqual(cheapest(free, [*four, "0", "1"], 2).words[0], "00000000")


class FlagsOfTest(unittest.TestCase):

    def test_by_a_plain_search(self):
        for setting in some(25):
            signs = setting.bars.signs
            for letters in range(1, 5):
                words = [word for word in texts(signs, letters) if len(word) == letters]
                if len(words) > 64:
                    refuses(self, TooMany("flags", 64), flags_of, setting, letters)
                    continue
                rates = {word: rate_of(setting, [word]) for word in words}
                told = [rate for rate in rates.values() if rate is not None]
                least = None
                for rate in told:
                    least = rate if least is None or rate < least else least
                fits = tuple(word for word in words if least is not None and rates[word] == least)
                self.assertTrue(same(flags_of(setting, letters), Chosen(fits, least)))

    def test_by_hand(self):
        self.assertEqual(flags_of(PAIR, 2), Chosen(("00", "11"), Rate(2)))
        self.assertEqual(flags_of(letters=3, setting=PAIR), Chosen(("000", "010", "101", "111"), Rate(3, 2)))
        self.assertEqual(flags_of(PAIR, 1), Chosen((), None))
        self.assertEqual(flags_of(PAIR.with_menu(Menu("01", Put("0"))), 2), Chosen((), None))
        self.assertEqual(flags_of(Setting(Bars("0123")), 1).rate, None)
        self.assertEqual((len(flags_of(PAIR, 6).words), flags_of(PAIR, 6).rate), (20, Rate(6, 5)))

    def test_the_start_moves(self):
        setting = Setting(Bars("01", "0110"), start="011")
        self.assertEqual(flags_of(setting, 2).rate, Rate(2))
        there = Setting(Bars("01", "1100"), None, Prices("01", {"0": 9}), "110")
        rates = {word: rate_of(there, [word]) for word in texts("01", 3) if len(word) == 3}
        found = flags_of(there, 3)
        self.assertEqual(found.words, tuple(word for word in rates if rates[word] == found.rate))

    def test_errors_in_order(self):
        for value in others(lambda value: is_integer(value) and 1 <= value <= 8):
            refuses(self, BadNumber(value), flags_of, PAIR, value)
        for letters in (7, 8):
            refuses(self, TooMany("flags", 64), flags_of, PAIR, letters)
        refuses(self, TooMany("flags", 64), flags_of, Setting(Bars("012")), 4)
        refuses(self, TooMany("flags", 64), flags_of, Setting(Bars("0123")), 4)
        refuses(self, BadNumber(9), flags_of, Setting(Bars("0123")), 9)


class RangeTest(unittest.TestCase):

    def plain_range(self, made, rate):
        """The least and the greatest number from 1 to 9 with which the rate is as it is; all between have it, too."""
        fits = [number for number in range(1, 10) if least_rate(made(number)) == rate]
        self.assertEqual(fits, list(range(fits[0], fits[-1] + 1)))
        return fits[0], fits[-1]

    def test_by_a_plain_search(self):
        wide = 0
        for setting in open_settings(some(60)):
            rate, prices = least_rate(setting), setting.prices
            for sign in setting.bars.signs:
                found = self.plain_range(lambda n: setting.with_prices(prices.with_price(sign, n)), rate)
                self.assertTrue(same(price_range(setting, sign), found))
                wide += 1 < found[1] - found[0] < 8
                found = self.plain_range(lambda n: setting.with_prices(prices.with_weight(sign, n)), rate)
                self.assertTrue(same(weight_range(setting, sign), found))
        self.assertGreater(wide, 10)

    def test_by_hand(self):
        self.assertEqual(price_range(Setting(Bars("012", "11")), "2"), (1, 2))
        self.assertEqual([weight_range(PAIR, "0"), weight_range(sign="1", setting=PAIR)], [(1, 9), (1, 1)])
        self.assertEqual(price_range(setting=PAIR, sign="1"), (1, 1))
        heavy = PAIR.with_prices(Prices("01", None, {"1": 9}))
        self.assertEqual([weight_range(heavy, "1"), weight_range(heavy, "0"), price_range(heavy, "1")],
                         [(2, 9), (1, 1), (1, 8)])

    def test_errors_in_order(self):
        for value in others(lambda value: isinstance(value, str) and value in ("0", "1")):
            for work in (price_range, weight_range):
                refuses(self, BadSign(value), work, PAIR, value)
                refuses(self, BadSign(value), work, BOTH, value)
        for work in (price_range, weight_range):
            refuses(self, NoWay(""), work, BOTH, "0")
            refuses(self, NoWay("1"), work, BOTH.with_start("1"), "1")
            refuses(self, BadSign("2"), work, PAIR, "2")


class AllTest(unittest.TestCase):

    def test_settings(self):
        for value in others(lambda value: isinstance(value, Setting)):
            refuses(self, BadSetting("setting"), needless, value)
            refuses(self, BadSetting("setting"), without_needless, value)
            refuses(self, BadSetting("setting"), rate_by_starts, value)
            refuses(self, BadSetting("setting"), can_join, value, None)
            refuses(self, BadSetting("setting"), cheapest, value, None, None)
            refuses(self, BadSetting("setting"), flags_of, value, None)
            refuses(self, BadSetting("setting"), price_range, value, None)
            refuses(self, BadSetting("setting"), weight_range, value, None)

    def test_chosen(self):
        check_paper(self, Chosen, ("words", "rate"))
        for value in values():
            self.assertIs(flags_of(PAIR, 3) == value, False)

    def test_a_large_setting(self):
        setting = large_setting()
        rate = least_rate(setting)
        words = setting.bars.words
        self.assertEqual(needless(setting), tuple(
            word for word in words if rate_of(setting, [one for one in words if one != word]) == rate))
        self.assertTrue(is_text(setting.start, "0123") and len(rate_by_starts(setting)) == 24)


if __name__ == "__main__":
    unittest.main()
