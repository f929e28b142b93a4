import random
import unittest

from common import check_read, check_reads_strings_alone, is_integer, others, refuses, same, values
from flagfree.bars import Bars
from flagfree.errors import BadBars, BadSent, BadSigns, BadText, BadWord, FlagError, NoEnd, TooMany
from flagfree.moves import Put
from oracles import bars_complete, bars_stands, is_alphabet, is_text, is_word, least, slow_end, texts


def some_words(draw, signs):
    """Some words of an alphabet."""
    return ["".join(draw.choice(signs) for _ in range(draw.randint(1, 4))) for _ in range(draw.randint(0, 5))]


def some_bars(many):
    """Alphabets, words, and the bars that are made of them."""
    draw = random.Random(5)
    rows = []
    for _ in range(many):
        signs = draw.choice(["01", "ab", "012", "0z", "abcz"])
        words = some_words(draw, signs)
        try:
            rows.append((signs, words, Bars(signs, *words)))
        except TooMany:
            pass
    return rows


class BarsTest(unittest.TestCase):

    def test_attributes(self):
        bars = Bars("01", "111", "00")
        self.assertEqual(bars.signs, "01")
        self.assertEqual(bars.words, ("00", "111"))
        self.assertEqual(bars.ends, ("", "0", "1", "11"))

    def test_without_words(self):
        bars = Bars("01")
        self.assertEqual((bars.signs, bars.words, bars.ends), ("01", (), ("",)))
        self.assertEqual((len(bars), bool(bars), list(bars)), (0, False, []))
        self.assertEqual((bars.end_of("0110"), bars.behind("", "0110"), "0110" in bars), ("", "", False))

    def test_words_of_one_sign(self):
        bars = Bars("01", "0", "1")
        self.assertEqual((bars.words, bars.ends), (("0", "1"), ("",)))
        self.assertEqual((bars.end_of(""), bars.behind("", "0")), ("", None))

    def test_needless_words(self):
        self.assertEqual(Bars("01", "0110", "11", "0000", "00").words, ("00", "11"))
        self.assertEqual(Bars("01", "11", "0110").words, ("11",))
        self.assertEqual(Bars("01", "1", "11", "111").words, ("1",))
        self.assertEqual(Bars("01", "11", "11").words, ("11",))
        self.assertEqual(Bars("01", "110", "111", "110").words, ("110", "111"))

    def test_needless_words_make_no_ends(self):
        self.assertEqual(Bars("01", "00111", "11").ends, ("", "1"))

    def test_words_by_a_plain_search(self):
        for signs, words, bars in some_bars(300):
            self.assertTrue(same(bars.words, least(words)))
            self.assertEqual(bars, Bars(signs, *reversed(words)))
            self.assertEqual(bars, Bars(signs, *words, *words))

    def test_ends_by_a_plain_search(self):
        for signs, words, bars in some_bars(150):
            ends = {slow_end(text, bars.words) for text in texts(signs, 6 if len(signs) < 3 else 4)}
            self.assertTrue(same(bars.ends, tuple(sorted(ends - {None}))), (str(bars), bars.ends))

    def test_end_of_and_behind_by_a_plain_search(self):
        for signs, words, bars in some_bars(60):
            for text in texts(signs, 5 if len(signs) < 3 else 3):
                end = slow_end(text, bars.words)
                if end is None:
                    refuses(self, BadSent(text), bars.end_of, text)
                    self.assertIs(text in bars, True)
                else:
                    self.assertEqual(bars.end_of(text), end)
                    self.assertIs(text in bars, False)
                for ahead in bars.ends:
                    self.assertEqual(bars.behind(ahead, text), slow_end(ahead + text, bars.words))

    def test_long_texts(self):
        bars = Bars("01", "111111")
        self.assertEqual(bars.end_of("11111" + "011111" * 4000), "11111")
        self.assertEqual(bars.behind("1", "0" * 30000 + "11"), "11")
        self.assertIsNone(bars.behind("1", "0" * 30000 + "111111" + "0"))

    def test_by_name(self):
        bars = Bars(signs="01") | Bars("01", "11")
        self.assertEqual(bars, Bars.of(words=["11"], signs="01"))
        self.assertEqual((bars.end_of(text="01"), bars.behind(text="0", end="1")), ("1", ""))
        self.assertEqual(bars.changed(table={"0": "1", "1": "0"}), Bars.read(text="01 : 00"))

    def test_bad_signs(self):
        for value in others(is_alphabet):
            refuses(self, BadSigns(value), Bars, value)
            refuses(self, BadSigns(value), Bars, value, "", 7)
            refuses(self, BadSigns(value), Bars.of, value, 7)
        for value in ("01", "0z", "9a", "az", "0123", "wxyz", "05a"):
            self.assertEqual(Bars(value).signs, value)
        for value in ("", "0", "00", "10", "011", "01234", "0A", "0-", "a9", "aa", "0 1", "ba", "021"):
            refuses(self, BadSigns(value), Bars, value)

    def test_bad_words(self):
        for value in others(lambda value: is_word(value, "01")):
            refuses(self, BadWord(value), Bars, "01", value)
            refuses(self, BadWord(value), Bars, "01", "0", value, "", 9)
            refuses(self, BadWord(value), Bars.of, "01", ("0", value, "2"))
        refuses(self, BadWord("012"), Bars, "01", "0", "012", "")
        refuses(self, BadWord("000000000"), Bars, "01", "00000000", "000000000")

    def test_of(self):
        for words in ([], (), ["11", "0110"], ("11", "00")):
            self.assertEqual(Bars.of("01", words), Bars("01", *words))
        for value in others(lambda value: isinstance(value, (list, tuple))):
            refuses(self, BadBars("words"), Bars.of, "01", value)
        refuses(self, BadSigns("10"), Bars.of, "10", 3)
        refuses(self, BadBars("words"), Bars.of, "01", "11")

    def test_later_changes_of_the_words(self):
        words = ["11", "00"]
        bars = Bars.of("01", words)
        words.append("10")
        words[0] = "01"
        self.assertEqual(bars, Bars("01", "00", "11"))

    def test_most_words(self):
        words = ["0001", "0010", "0011", "0100", "0101", "0110", "0111", "1000", "1001"]
        self.assertEqual(len(Bars("01", *words[:8])), 8)
        self.assertEqual(len(Bars("01", *words[:8], *words[:8])), 8)
        refuses(self, TooMany("words", 8), Bars, "01", *words)
        refuses(self, TooMany("words", 8), Bars, "01", *words[:8], "0")
        refuses(self, TooMany("words", 8), Bars.of, "01", words)
        refuses(self, BadWord(""), Bars, "01", *words, "")

    def test_most_words_ahead_of_most_ends(self):
        words = [format(k, "08b") for k in range(17, 250, 25)][:9]
        refuses(self, TooMany("words", 8), Bars, "01", *words)
        refuses(self, TooMany("ends", 24), Bars, "01", *words[:8])

    def test_most_signs_of_a_word(self):
        self.assertEqual(len(Bars("01", "01111110").ends), 8)
        refuses(self, BadWord("011111110"), Bars, "01", "011111110")

    def test_most_ends(self):
        bars = Bars("012", "00000000", "11111111", "22222222")
        self.assertEqual(len(bars.ends), 22)
        fit = Bars("0123", "00000000", "11111111", "22222222", "333")
        self.assertEqual(len(fit.ends), 24)
        refuses(self, TooMany("ends", 24), Bars, "0123", "00000000", "11111111", "22222222", "3333")
        self.assertEqual(len(Bars("0123", "00000000", "11111111", "22222222", "333", "3333").ends), 24)

    def test_in_for_all_values(self):
        bars = Bars("01", "11", "0")
        for value in values():
            expected = is_text(value, "01") and ("0" in value or "11" in value)
            self.assertIs(value in bars, expected)
        self.assertIs("112" in bars, False)
        self.assertIs("" in bars, False)
        self.assertIs("1" in bars, False)

    def test_bad_sent_for_all_values(self):
        bars = Bars("01", "11", "000")
        for value in others(lambda value: is_text(value, "01") and "11" not in value and "000" not in value):
            refuses(self, BadSent(value), bars.end_of, value)
        for value in others(lambda value: is_text(value, "01")):
            refuses(self, BadSent(value), bars.behind, "1", value)
        refuses(self, BadSent("011"), bars.end_of, "011")
        refuses(self, BadSent("02"), bars.end_of, "02")

    def test_no_end_for_all_values(self):
        bars = Bars("01", "11", "000")
        self.assertEqual(bars.ends, ("", "0", "00", "1"))
        for value in others(lambda value: isinstance(value, str) and value in bars.ends):
            refuses(self, NoEnd(value), bars.behind, value, "0")
            refuses(self, NoEnd(value), bars.behind, value, None)

    def test_equality(self):
        self.assertEqual(Bars("01", "11", "00"), Bars("01", "00", "11", "011"))
        self.assertNotEqual(Bars("01", "11"), Bars("012", "11"))
        self.assertNotEqual(Bars("01", "11"), Bars("01", "111"))
        self.assertNotEqual(Bars("01"), Bars("01", "11"))
        bars = Bars("01", "1")
        for value in values():
            self.assertIs(bars == value, False)
            self.assertIs(bars != value, True)
        self.assertIs(bars == bars, True)

    def test_len_iteration_truth(self):
        bars = Bars("01", "11", "0110", "00")
        self.assertEqual((len(bars), bool(bars), list(bars)), (2, True, ["00", "11"]))

    def test_either(self):
        one, other = Bars("01", "111", "00"), Bars("01", "11", "010")
        self.assertEqual(one | other, Bars("01", "00", "010", "11"))
        self.assertEqual((one | other).words, ("00", "010", "11"))
        words = ["0001", "0010", "0011", "0100", "0101", "0110", "0111", "1000", "1001"]
        self.assertEqual(Bars("01", *words[:5]) | Bars("01", *words[3:8]), Bars("01", *words[:8]))
        refuses(self, TooMany("words", 8), lambda: Bars("01", *words[:5]) | Bars("01", *words[5:]))
        refuses(self, TooMany("ends", 24),
                lambda: Bars("0123", "00000000", "11111111", "22222222") | Bars("0123", "3333"))

    def test_both_and_less(self):
        one, other = Bars("01", "111", "00", "1010"), Bars("01", "00", "11", "1010")
        self.assertEqual(one & other, Bars("01", "00", "1010"))
        self.assertEqual(one - other, Bars("01", "111"))
        self.assertEqual(other - one, Bars("01", "11"))
        self.assertEqual(one - one, Bars("01"))
        self.assertEqual(Bars("01", "11", "00") & Bars("01", "11", "00"), Bars("01", "00", "11"))

    def test_in_place(self):
        bars = first = Bars("01", "111")
        bars |= Bars("01", "00")
        self.assertEqual(bars, Bars("01", "00", "111"))
        bars -= Bars("01", "111")
        self.assertEqual(bars, Bars("01", "00"))
        bars &= Bars("01", "111")
        self.assertEqual(bars, Bars("01"))
        self.assertEqual(first, Bars("01", "111"))

    def test_order(self):
        wide = Bars("01", "11", "00")
        for words, at_most, less in ((("111",), True, True), (("11", "00"), True, False), (("11",), True, True),
                                     ((), True, True), (("111", "1001"), True, True), (("10",), False, False),
                                     (("11", "00", "10"), False, False), (("1",), False, False)):
            bars = Bars("01", *words)
            self.assertIs(bars <= wide, at_most, words)
            self.assertIs(bars < wide, less, words)
        self.assertIs(Bars("01") <= Bars("01"), True)
        self.assertIs(Bars("01") < Bars("01"), False)

    def test_order_by_a_plain_search(self):
        rows = [bars for signs, _, bars in some_bars(90) if signs == "01"]
        for one in rows:
            for other in rows:
                barred = all(any(word in text for word in other.words) for text in one.words)
                self.assertIs(one <= other, barred)
                self.assertIs(one < other, barred and one.words != other.words)

    def test_bad_other(self):
        bars = Bars("01", "11")
        for value in others(lambda value: isinstance(value, Bars) and value.signs == "01"):
            refuses(self, BadBars("other"), lambda: bars | value)
            refuses(self, BadBars("other"), lambda: bars & value)
            refuses(self, BadBars("other"), lambda: bars - value)
            refuses(self, BadBars("other"), lambda: bars <= value)
            refuses(self, BadBars("other"), lambda: bars < value)

    def test_turned(self):
        self.assertEqual(~Bars("01", "001", "1011"), Bars("01", "100", "1101"))
        self.assertEqual(~Bars("01"), Bars("01"))
        for _, _, bars in some_bars(60):
            try:
                self.assertEqual((~bars).words, tuple(sorted(word[::-1] for word in bars.words)))
            except TooMany:
                self.assertGreater(len({word[k:] for word in bars.words for k in range(1, len(word) + 1)}), 23)

    def test_turned_has_too_many_ends(self):
        words = ["0000000" + sign for sign in "123"] + ["00000010", "00000020", "00000030"]
        bars = Bars("0123", *words)
        self.assertEqual(len(bars.ends), 11)
        refuses(self, TooMany("ends", 24), lambda: ~bars)

    def test_changed(self):
        bars = Bars("012", "011", "2")
        self.assertEqual(bars.changed({"0": "1", "1": "2", "2": "0"}), Bars("012", "122", "0"))
        self.assertEqual(bars.changed({"2": "2", "1": "1", "0": "0"}), bars)
        fits = ({"0": "1", "1": "0"}, {"0": "0", "1": "1"})
        for value in others(lambda value: value in fits):
            refuses(self, BadBars("table"), Bars("01", "11").changed, value)
        for value in ({"0": "1", "1": "1"}, {"0": "1"}, {"0": "1", "1": "0", "2": "2"}, {"0": "a", "1": "b"},
                      {"0": "01", "1": "0"}, {"0": "", "1": "0"}, {"0": 0, "1": 1}, {0: "0", 1: "1"},
                      {"0": ["1"], "1": "0"}):
            refuses(self, BadBars("table"), Bars("01", "11").changed, value)

    def test_str(self):
        self.assertEqual(str(Bars("01", "11", "00", "011")), "01 : 00 11")
        self.assertEqual(str(Bars("xyz")), "xyz : -")

    def test_read_back(self):
        for _, _, bars in some_bars(200):
            found = Bars.read(str(bars))
            self.assertEqual((type(found), found), (Bars, bars))

    def test_read_spoilt_texts(self):
        more = ["01", "10", ":", "-", "0", "1", "11", "00000000", "000000000", "012", "", "2", ";", "/", "1\n", "01:"]
        for text in ("01 : 00 11", "01 : -", "ab : ab ba", "01 : 0000 0101 011 10", "0z : 00 0z0 z",
                     "012 : 02 12 2222"):
            check_read(self, Bars.read, text.split(" "), more, bars_stands, bars_complete)

    def test_read_by_hand(self):
        for text, word in (("", 0), ("01", 1), ("01 :", 2), ("01 : ", 2), ("01  : 1", 1), (" 01 : 1", 0),
                           ("01 : 1 ", 3),
                           ("01 : 1 0", 3), ("01 : 0 01", 3), ("01 : 00 1 10", 4), ("01 : 1 1", 3), ("01 : -1", 2),
                           ("01 : - -", 3), ("10 : 1", 0), ("01 : 000000000", 2), ("01 : 0 1 -", 4), ("01 : 2", 2),
                           ("01 : 1\n", 2), ("01\n: 1", 0), ("01 : 010 1", 3)):
            refuses(self, BadText(0, word), Bars.read, text)

    def test_read_what_the_class_raises(self):
        words = ["0001", "0010", "0011", "0100", "0101", "0110", "0111", "1000", "1001"]
        refuses(self, TooMany("words", 8), Bars.read, "01 : " + " ".join(words))
        refuses(self, BadText(0, 11), Bars.read, "01 : " + " ".join(words) + " 1")
        refuses(self, TooMany("ends", 24), Bars.read, "0123 : 00000000 11111111 22222222 3333")

    def test_read_other_values(self):
        check_reads_strings_alone(self, Bars.read)

    def test_never_changes(self):
        bars = Bars("01", "11")
        bars | Bars("01", "00")
        bars.changed({"0": "1", "1": "0"})
        list(bars).append("0")
        self.assertEqual((bars.signs, bars.words, bars.ends), ("01", ("11",), ("", "1")))

    def test_kinds_of_values(self):
        self.assertTrue(is_integer(len(Bars("01", "11"))))
        self.assertIsInstance(Bars("01", "11").ends, tuple)
        self.assertIsInstance(BadSigns("10"), FlagError)
        self.assertFalse(Bars("01") == Put("0"))


if __name__ == "__main__":
    unittest.main()
