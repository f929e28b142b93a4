import random
import unittest

from common import check_read, check_reads_strings_alone, others, refuses, same, values
from flagfree.errors import BadMove, BadSign, BadSigns, BadText, BadWord
from flagfree.moves import Code, Move, Put
from oracles import SIGNS, alike, is_alphabet, is_code_word, is_sign, move_complete, move_stands


def some_code(draw, content):
    """A code for some content signs."""
    while True:
        words = {}
        for sign in content:
            words[sign] = "".join(draw.choice(SIGNS[:4]) for _ in range(draw.randint(1, 3)))
        rows = list(words.values())
        if not any(alike(rows[k], rows[m]) for k in range(len(rows)) for m in range(k)):
            return words


class PutTest(unittest.TestCase):

    def test_signs(self):
        for sign in SIGNS:
            put = Put(sign)
            self.assertEqual(put.sign, sign)
            self.assertEqual(str(put), "put " + sign)
        self.assertEqual(Put(sign="0"), Put("0"))
        self.assertIsInstance(Put("0"), Move)

    def test_bad_sign(self):
        for value in others(is_sign):
            refuses(self, BadSign(value), Put, value)
        for value in ("A", "-", "01", "", " ", "\n", 0, b"0", ["0"]):
            refuses(self, BadSign(value), Put, value)

    def test_equality(self):
        for value in values():
            self.assertIs(Put("1") == value, False)
            self.assertIs(Put("1") != value, True)
        self.assertIs(Put("1") == Put("1"), True)
        self.assertIs(Put("0") == Put("1"), False)
        self.assertIs(Put("0") == Code({"0": "0"}), False)

    def test_is_of(self):
        self.assertIs(Put("0").is_of("01"), True)
        self.assertIs(Put("0").is_of(signs="012"), True)
        self.assertIs(Put("0").is_of("12"), False)
        for value in values():
            self.assertIs(Put("0").is_of(value), is_alphabet(value) and "0" in value)
        self.assertIs(Put("0").is_of("0"), False)
        self.assertIs(Put("0").is_of("10"), False)

    def test_changed(self):
        self.assertEqual(Put("0").changed({"0": "z"}), Put("z"))
        self.assertEqual(Put("0").changed(table={"1": "0", "0": "1", "a": "a"}), Put("1"))
        for table in ({}, {"1": "0"}, {"0": "a", "1": "a"}, {"0": "01"}, {"0": ""}, {"0": 1}, {"0": "a", "": "b"},
                      {"0": "a", 1: "b"}, {"0": "a", "01": "b"}, {"0": "A"}, {"0": "a", "1": ["a"]}, {"0": ["a"]}):
            refuses(self, BadMove("table"), Put("0").changed, table)
        fits = ({"0": "1"}, {"0": "1", "1": "0"}, {"0": "0", "1": "1"})
        for value in others(lambda value: value in fits):
            refuses(self, BadMove("table"), Put("0").changed, value)


class CodeTest(unittest.TestCase):

    def test_words_ascend(self):
        code = Code({"x": "xx", "e": "xa", "a": "a"})
        self.assertTrue(same(code.words, (("a", "a"), ("e", "xa"), ("x", "xx"))))
        self.assertEqual(str(code), "code a a e xa x xx")
        self.assertTrue(same(list(code), [("a", "a"), ("e", "xa"), ("x", "xx")]))
        self.assertEqual((len(code), bool(code)), (3, True))
        self.assertEqual(Code(words={"0": "1"}), Code({"0": "1"}))
        self.assertIsInstance(code, Move)

    def test_order_of_the_dict_means_nothing(self):
        draw = random.Random(3)
        for _ in range(50):
            words = some_code(draw, "0aez")
            keys = list(words)
            draw.shuffle(keys)
            self.assertEqual(Code({key: words[key] for key in keys}), Code(words))
            self.assertTrue(same(Code(words).words, tuple(sorted(words.items()))))

    def test_later_changes_of_the_dict(self):
        words = {"0": "0", "1": "1"}
        code = Code(words)
        words["0"] = "z"
        words["2"] = "2"
        self.assertEqual((str(code), code["0"], "2" in code, len(code)), ("code 0 0 1 1", "0", False, 2))

    def test_items(self):
        code = Code({"0": "10", "1": "0", "z": "111"})
        self.assertEqual((code["0"], code["1"], code["z"]), ("10", "0", "111"))
        for value in values():
            self.assertIs(value in code, value in ("0", "1", "z"))
        for value in others(lambda value: value in ("0", "1", "z")):
            refuses(self, BadSign(value), lambda: code[value])
        refuses(self, BadSign("2"), lambda: code["2"])
        refuses(self, BadSign("10"), lambda: code["10"])

    def test_any_content_signs(self):
        self.assertEqual(str(Code({"q": "000"})), "code q 000")
        self.assertEqual(len(Code({sign: sign for sign in SIGNS})), 36)

    def test_bad_words(self):
        for value in others(lambda value: isinstance(value, dict)):
            refuses(self, BadMove("words"), Code, value)
        refuses(self, BadMove("words"), Code, {})
        refuses(self, BadMove("words"), Code, [("0", "0")])

    def test_bad_keys(self):
        for value in others(is_sign):
            try:
                hash(value)
            except TypeError:
                continue
            refuses(self, BadSign(value), Code, {value: "0"})
            refuses(self, BadSign(value), Code, {"a": "", value: "0", "-": 7})
        refuses(self, BadSign("01"), Code, {"0": 5, "01": "1", "": "2"})
        refuses(self, BadSign(""), Code, {"0": 5, "": "1", "01": "2"})

    def test_bad_values(self):
        for value in others(is_code_word):
            refuses(self, BadWord(value), Code, {"0": value})
            refuses(self, BadWord(value), Code, {"1": "1", "0": value, "2": "1", "3": ""})
        refuses(self, BadWord("0000"), Code, {"0": "000", "1": "0000"})
        refuses(self, BadWord(""), Code, {"0": ""})
        refuses(self, BadWord("A"), Code, {"0": "A"})

    def test_begins(self):
        for words in ({"0": "0", "1": "0"}, {"0": "0", "1": "01"}, {"0": "01", "1": "0"},
                      {"0": "011", "1": "1", "2": "01"},
                      {"0": "1", "1": "01", "2": "011"}):
            refuses(self, BadMove("begins"), Code, words)
        self.assertEqual(len(Code({"0": "01", "1": "00", "2": "1", "3": "21"})), 4)
        self.assertEqual(len(Code({"0": "10", "1": "0"})), 2)

    def test_plain(self):
        self.assertEqual(str(Code.plain("0az")), "code 0 0 a a z z")
        self.assertEqual(Code.plain(signs="01"), Code({"1": "1", "0": "0"}))
        for value in others(is_alphabet):
            refuses(self, BadSigns(value), Code.plain, value)

    def test_escape(self):
        self.assertEqual(Code.escape("01", "1", {"1": "0"}), Code({"0": "0", "1": "10"}))
        self.assertEqual(Code.escape(told={"a": "x", "x": "a"}, sign="x", signs="aex"),
                         Code({"a": "xx", "e": "e", "x": "xa"}))
        self.assertEqual(Code.escape("01", "0", {"0": "0"}), Code({"0": "00", "1": "1"}))

    def test_escape_errors(self):
        for value in others(is_alphabet):
            refuses(self, BadSigns(value), Code.escape, value, 7, 7)
        for value in others(lambda value: value in ("0", "1")):
            refuses(self, BadSign(value), Code.escape, "01", value, 7)
        refuses(self, BadSign("01"), Code.escape, "01", "01", {"0": "1"})
        refuses(self, BadSign(""), Code.escape, "01", "", {"0": "1"})
        for value in others(lambda value: value in ({"0": "1"}, {"0": "1", "1": "0"}, {"0": "0", "1": "1"})):
            refuses(self, BadMove("told"), Code.escape, "01", "0", value)
        for told in ({}, {"1": "1"}, {"0": "1", "1": "1"}, {"0": "2"}, {"0": "1", "2": "0"}, {"0": ""}, {"0": "01"},
                     {"0": 1}, {"0": "1", 1: "0"}, {"0": ["1"]}):
            refuses(self, BadMove("told"), Code.escape, "01", "0", told)

    def test_chosen(self):
        self.assertEqual(Code.chosen("01", {"0": "1", "1": "1"}), Code({"0": "10", "1": "11"}))
        self.assertEqual(Code.chosen(ahead={"b": "a", "a": "b"}, signs="ab"), Code({"a": "ba", "b": "ab"}))
        self.assertEqual(Code.chosen("012", {"0": "0", "1": "0", "2": "1"}), Code({"0": "00", "1": "01", "2": "12"}))

    def test_chosen_errors(self):
        for value in others(is_alphabet):
            refuses(self, BadSigns(value), Code.chosen, value, 7)
        for value in others(lambda value: value in ({"0": "1", "1": "0"}, {"0": "0", "1": "1"})):
            refuses(self, BadMove("ahead"), Code.chosen, "01", value)
        for ahead in ({}, {"0": "1"}, {"0": "1", "1": "2"}, {"0": "1", "1": "0", "2": "0"}, {"0": "1", "1": ""},
                      {"0": "1", "2": "0"}, {"0": "1", "1": "01"}, {"0": "1", 1: "0"}, {"0": "1", "1": ["0"]}):
            refuses(self, BadMove("ahead"), Code.chosen, "01", ahead)

    def test_later_changes_of_told(self):
        told, ahead = {"0": "1"}, {"0": "1", "1": "1"}
        escape, chosen = Code.escape("01", "0", told), Code.chosen("01", ahead)
        told["0"] = ahead["0"] = "0"
        self.assertEqual((str(escape), str(chosen)), ("code 0 01 1 1", "code 0 10 1 11"))

    def test_is_of(self):
        code = Code({"0": "0", "1": "11"})
        for value in values():
            self.assertIs(code.is_of(value), value == "01")
        self.assertIs(code.is_of(signs="01"), True)
        self.assertIs(code.is_of("012"), False)
        self.assertIs(Code({"0": "0", "1": "12"}).is_of("01"), False)
        self.assertIs(Code({"0": "0", "1": "1", "2": "21"}).is_of("01"), False)
        self.assertIs(Code({"0": "0"}).is_of("01"), False)
        self.assertIs(Code({"0": "0"}).is_of("0"), False)
        self.assertIs(Code({"1": "0", "2": "1"}).is_of("01"), False)

    def test_changed(self):
        code = Code({"0": "0", "1": "12"})
        self.assertEqual(code.changed({"0": "b", "1": "a", "2": "0"}), Code({"b": "b", "a": "a0"}))
        self.assertEqual(code.changed(table={"0": "1", "1": "2", "2": "0", "z": "z"}), Code({"1": "1", "2": "20"}))
        for table in ({}, {"0": "0", "1": "1"}, {"0": "0", "1": "1", "2": "1"}, {"0": "0", "1": "1", "2": "A"},
                      {"0": "0", "2": "2"}, {"0": "0", "1": "1", "2": "2", "": "a"}, {"0": "0", "1": "1", "2": 2},
                      {"0": "0", "1": "1", "2": "2", "3": "0"}, {"0": "0", "1": "1", "2": "2", "3": "33"}):
            refuses(self, BadMove("table"), code.changed, table)
        for value in values():
            refuses(self, BadMove("table"), code.changed, value)

    def test_equality(self):
        for value in values():
            self.assertIs(Code({"0": "1"}) == value, False)
        self.assertIs(Code({"0": "0", "1": "1"}) == Code({"1": "1", "0": "0"}), True)
        self.assertIs(Code({"0": "0", "1": "1"}) == Code({"0": "0"}), False)
        self.assertIs(Code({"0": "0", "1": "1"}) == Code({"0": "1", "1": "0"}), False)
        self.assertIs(Code({"0": "0"}) != Code({"0": "0"}), False)


class ReadTest(unittest.TestCase):

    def test_back_and_forth(self):
        draw = random.Random(7)
        rows = [Put(sign) for sign in SIGNS] + [Code({sign: sign for sign in SIGNS})]
        rows += [Code(some_code(draw, draw.sample(SIGNS, draw.randint(1, 5)))) for _ in range(200)]
        for move in rows:
            found = Move.read(str(move))
            self.assertTrue(same(found, move))
        self.assertEqual(Move.read(text="put a"), Put("a"))

    def test_spoilt_texts(self):
        more = ["put", "code", "0", "1", "z", "01", "00", "000", "0000", "A", "", "-", ";", ":", "0\n", "zz"]
        for text in ("put 0", "code 0 0 1 10", "code a a e xa x xx", "code z 000", "code 0 01 1 00 5 1 z z0z"):
            check_read(self, Move.read, text.split(" "), more, move_stands, move_complete)

    def test_by_hand(self):
        for text, word in (("", 0), ("put", 1), ("put ", 1), ("put 00", 1), ("put 0 0", 2), ("put 0 ", 2), ("code", 1),
                           ("code 0", 2), ("code 0 0 ", 3), ("code 0 0 0 1", 3), ("code 1 0 0 1", 3),
                           ("code 0 0 1 01", 4),
                           ("code 0 01 1 0", 4), ("code 0 0 1 0", 4), ("code 0 0000", 2), ("code 0 0 1", 4),
                           ("Put 0", 0),
                           ("code 00 0", 1), ("code 0 - ", 2), ("code  0 0", 1), ("puts 0", 0), ("code 0 0 12 1", 3)):
            refuses(self, BadText(0, word), Move.read, text)
        self.assertEqual(Move.read("code q 0"), Code({"q": "0"}))

    def test_other_values(self):
        check_reads_strings_alone(self, Move.read)


if __name__ == "__main__":
    unittest.main()
