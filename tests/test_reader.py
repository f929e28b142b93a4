import random
import unittest

from common import first_bad, refuses, same, spoilt, told, values
from flagfree.bars import Bars
from flagfree.errors import BadText, FlagError
from flagfree.menus import Menu
from flagfree.moves import Code, Put
from flagfree.prices import Prices
from flagfree.reader import read_setting, read_table
from flagfree.rules import Table
from flagfree.settings import Setting
from flagfree.texts import setting_text, table_text
from oracles import (SIGNS, bars_complete, bars_stands, is_text, menu_complete, menu_stands, move_complete, move_stands,
                     prices_complete, prices_stands)
from samples import large_setting, mixed_settings, some_settings, some_tables

PLAIN = Code.plain("01")
LINE = Setting(Bars("01", "111"))
TABLE = Table({"": PLAIN, "1": PLAIN, "11": Put("0")})


def start_stands(ahead, word):
    return len(ahead) == 0 and (word == "-" or is_text(word, SIGNS) and 1 <= len(word) <= 7)


KINDS = (("bars", bars_stands, bars_complete), ("menu", menu_stands, menu_complete),
         ("prices", prices_stands, prices_complete), ("start", start_stands, lambda words: len(words) == 1))


def is_refused(at, rows):
    """Whether what a row of right words tells is refused, or does not fit the rows ahead of it."""
    words = [row.split(" ")[1:] for row in rows]
    barred = [word for word in words[0][2:] if word != "-"]
    ends = {word[:k] for word in barred for k in range(len(word))} | {""}
    if at == 0:
        return len(barred) > 8 or len(ends) > 24
    if at == 3:
        return words[3][0].replace("-", "") not in ends
    codes = [move for move in " ".join(words[1][2:]).split(" ; ") if move.startswith("code")]
    return words[at][0] != words[0][0] or at == 1 and (len(codes) > 8 or len(set(codes)) < len(codes))


def wrong_setting(text):
    """The row and the word of a text of a setting that are told, None if it can be read."""
    rows = text.split("\n")
    for at, (kind, stands, complete) in enumerate(KINDS):
        if at == len(rows):
            return at, 0
        words = rows[at].split(" ")
        bad = first_bad(words, lambda ahead, word: stands(ahead[1:], word) if ahead else word == kind,
                        lambda told_words: len(told_words) > 0 and complete(told_words[1:]))
        if bad is not None:
            return at, bad
        if is_refused(at, rows):
            return at, 0
    return None if len(rows) == 4 else (4, 0)


def wrong_table(text):
    """The row and the word of a text of a table that are told, None if it can be read."""
    if text == "":
        return None
    last = None
    for at, row in enumerate(text.split("\n")):
        words = row.split(" ")

        def stands(ahead, word):
            if len(ahead) == 0:
                end = "" if word == "-" else word
                fits = word == "-" or is_text(word, SIGNS) and 1 <= len(word) <= 7
                return fits and (last is None or end > last)
            return word == ":" if len(ahead) == 1 else move_stands(ahead[2:], word)

        bad = first_bad(words, stands, lambda told_words: move_complete(told_words[2:]))
        if bad is not None:
            return at, bad
        last = "" if words[0] == "-" else words[0]
    return None


def check(test, read, text, wrong, write):
    """Read a text, by a plain look at what is wrong in it."""
    if wrong is None:
        try:
            test.assertEqual(write(read(text)), text)
        except FlagError as error:
            test.fail(f"{text!r} can be read, {told(error)} raised")
    else:
        refuses(test, BadText(*wrong), read, text)


def spoilt_rows(text, words, draw):
    """Texts near to one: with words and rows left out, put in, exchanged, doubled."""
    rows = text.split("\n")
    near = [row for row in spoilt(rows, ["", "bars 01 : 11", "start -", "- : put 0", "1 : put 1", "menu 01 : -"])]
    for at, row in enumerate(rows):
        for one in spoilt(row.split(" "), words):
            near.append(rows[:at] + [" ".join(one)] + rows[at + 1:])
    many = [draw.sample(near, min(len(near), 40)) for _ in range(2)]
    # Two wrong places: the first one is told.
    both = [one[:2] + other[2:] for one, other in zip(*many)]
    return ["\n".join(row) for row in near + both]


class TextsTest(unittest.TestCase):

    def test_by_hand(self):
        self.assertEqual(setting_text(LINE), "bars 01 : 111\nmenu 01 : code 0 0 1 1 ; put 0 ; put 1\n"
                                             "prices 01 : 1 1 / 1 1\nstart -")
        told_so = Setting(Bars("az", "aza"), Menu("az"), Prices("az", {"z": 7}), "az")
        self.assertEqual(setting_text(setting=told_so), "bars az : aza\nmenu az : -\nprices az : 1 7 / 1 1\nstart az")
        self.assertEqual(table_text(TABLE), "- : code 0 0 1 1\n1 : code 0 0 1 1\n11 : put 0")
        self.assertEqual((table_text(Table({})), table_text(table=Table({"": Put("0")}))), ("", "- : put 0"))

    def test_ends_ascend_as_strings(self):
        table = Table({"1": Put("0"), "00": Put("1"), "": PLAIN, "10": Put("z"), "0": PLAIN})
        self.assertEqual([row.split(" ")[0] for row in table_text(table).split("\n")], ["-", "0", "00", "1", "10"])


class ReadSettingTest(unittest.TestCase):

    def test_back_and_forth(self):
        for setting in some_settings(150) + mixed_settings(100) + [large_setting()]:
            self.assertTrue(same(read_setting(setting_text(setting)), setting))
        self.assertEqual(read_setting(text=setting_text(LINE)), LINE)

    def test_spoilt_texts(self):
        draw = random.Random(293)
        words = ["bars", "menu", "prices", "start", "01", "012", ":", "-", ";", "/", "put", "code", "0", "1", "2", "00",
                 "11", "110", "9", "", "0110", "zzzzzzzz", "abc"]
        many = {}
        for text in ("bars 01 : 110\nmenu 01 : code 0 0 1 1 ; put 0\nprices 01 : 2 1 / 1 3\nstart 11",
                     "bars 01 : -\nmenu 01 : -\nprices 01 : 1 1 / 1 1\nstart -",
                     "bars ab : ab ba\nmenu ab : code a a b bb ; code a b b a ; put a ; put b\n"
                     "prices ab : 1 9 / 9 1\nstart b"):
            for near in spoilt_rows(text, words, draw):
                wrong = wrong_setting(near)
                check(self, read_setting, near, wrong, setting_text)
                many[wrong] = many.get(wrong, 0) + 1
        self.assertGreater(len(many), 30)

    def test_by_hand(self):
        rest = "\nmenu 01 : -\nprices 01 : 1 1 / 1 1\nstart -"
        for text, wrong in (
                ("", (0, 0)), ("bars 01 : 111\nmenu", (1, 1)), ("bars", (0, 1)), ("bars 01 : 111", (1, 0)),
                ("bars 01 : 111\n", (1, 0)), ("bars 01 : 111\nmenu 01 : -", (2, 0)),
                ("bars 01 : 111\nmenu 01 : -\nprices 01 : 1 1 / 1 1", (3, 0)),
                ("bars 01 : 111\nmenu 01 : -\nprices 01 : 1 1 / 1 1\nstart", (3, 1)),
                ("bars 01 : 111\nmenu 01 : -\nprices 01 : 1 1 / 1 1\nstart 0", (3, 0)),
                ("bars 01 : 111\nmenu 01 : -\nprices 01 : 1 1 / 1 1\nstart 111", (3, 0)),
                ("bars 01 : 111\nmenu 01 : -\nprices 01 : 1 1 / 1 1\nstart z", (3, 0)),
                ("bars 01 : 111\nmenu 01 : -\nprices 01 : 1 1 / 1 1\nstart 00000000", (3, 1)),
                ("bars 01 : 111\nmenu 01 : -\nprices 01 : 1 1 / 1 1\nstart - -", (3, 2)),
                ("bars 01 : 11 1" + rest, (0, 4)), ("bars 01 : 11 " + rest, (0, 4)), (" bars 01 : 11" + rest, (0, 0)),
                ("bars 01 : 11" + rest + "\n", (4, 0)), ("bars 01 : 11" + rest + "\nbars 01 : 11", (4, 0)),
                ("bars 01 : 11\nmenu 012 : -\nprices 01 : 1", (1, 0)), ("bars 01 : 11\nmenu 012 : - -", (1, 4)),
                ("bars 01 : 11\nmenu 01 : -\nprices 02 : 1 1 / 1 1\nstart q q", (2, 0)),
                ("bars 01 : 11\nmenu 01 : -\nprices 012 : 1 1 / 1 1", (2, 5)), ("bars 10 : 11", (0, 1))):
            self.assertEqual(wrong_setting(text), wrong)
            refuses(self, BadText(*wrong), read_setting, text)

    def test_what_the_classes_refuse_is_told_in_the_place_of_its_row(self):
        nine = " ".join(["0001", "0010", "0011", "0100", "0101", "0110", "0111", "1000", "1001"])
        refuses(self, BadText(0, 0), read_setting, f"bars 01 : {nine}\nmenu 7")
        refuses(self, BadText(0, 12), read_setting, f"bars 01 : {nine} 1\nmenu 7")
        many = "00000000 11111111 22222222 3333"
        refuses(self, BadText(0, 0), read_setting, f"bars 0123 : {many}")
        code = "code 0 0 1 1"
        refuses(self, BadText(1, 0), read_setting, f"bars 01 : 11\nmenu 01 : {code} ; {code}\nprices 7")
        refuses(self, BadText(1, 10), read_setting, f"bars 01 : 11\nmenu 01 : {code} ; {code[:4]}\nprices 7")
        codes = ["0 0 1 1", "0 1 1 0", "0 00 1 1", "0 00 1 01", "0 01 1 1", "0 01 1 10", "0 1 1 00", "0 11 1 0",
                 "0 11 1 10"]
        menu = " ; ".join(["code " + one for one in codes])
        refuses(self, BadText(1, 0), read_setting, f"bars 01 : 11\nmenu 01 : {menu}\nprices")
        eight = " ; ".join(["code " + one for one in codes[:8]])
        read = read_setting(f"bars 01 : 11\nmenu 01 : {eight}\nprices 01 : 1 1 / 1 1\nstart 1")
        self.assertEqual((len(read.menu), read.start), (8, "1"))

    def test_values(self):
        for value in values():
            refuses(self, BadText(0, 0), read_setting, value)


class ReadTableTest(unittest.TestCase):

    def test_back_and_forth(self):
        draw = random.Random(307)
        for setting in some_settings(60) + mixed_settings(60):
            for table in some_tables(draw, setting, 2):
                self.assertTrue(same(read_table(table_text(table)), table))
        self.assertEqual((read_table(""), read_table(text="- : put 0")), (Table({}), Table({"": Put("0")})))

    def test_spoilt_texts(self):
        draw = random.Random(311)
        words = ["-", ":", ";", "put", "code", "0", "1", "2", "00", "11", "110", "z", "", "0110", "zzzzzzzz", "table"]
        for text in (table_text(TABLE), "", "- : put 0", "0 : put z\n00 : code a a b b\n1 : put 1\nzzzzzzz : put 0",
                     "- : code 7 0\n0000000 : code 0 000 1 1"):
            for near in spoilt_rows(text, words, draw):
                check(self, read_table, near, wrong_table(near), table_text)

    def test_by_hand(self):
        for text, wrong in (("\n", (0, 0)), ("- : put 0\n", (1, 0)), ("-", (0, 1)), ("- :", (0, 2)),
                            ("- : put", (0, 3)),
                            ("- : put 0 ;", (0, 4)), ("1 : put 0\n0 : put 1", (1, 0)), ("1 : put 0\n- : put 1", (1, 0)),
                            ("1 : put 0\n1 : put 1", (1, 0)), ("- : put 0\n- : put 1", (1, 0)), ("table", (0, 1)),
                            ("00000000 : put 0", (0, 0)), ("1 : put 0\n00 : put 0", (1, 0)),
                            ("zzzzzzz : put 0\nzzzzzzz : put 0", (1, 0)), ("A : put 0", (0, 0)),
                            ("- : code 0 0 1 0", (0, 6)), ("- : put 0\n\n1 : put 0", (1, 0))):
            self.assertEqual(wrong_table(text), wrong)
            refuses(self, BadText(*wrong), read_table, text)
        self.assertEqual(len(read_table("0 : put 0\n00 : put 0\n01 : put 0\n1 : code a b")), 4)

    def test_values(self):
        for value in values():
            if value == "":
                self.assertEqual(read_table(value), Table({}))
            elif not isinstance(value, str):
                refuses(self, BadText(0, 0), read_table, value)
            else:
                refuses(self, BadText(*wrong_table(value)), read_table, value)


if __name__ == "__main__":
    unittest.main()
