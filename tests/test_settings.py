import unittest

from common import check_read, check_reads_strings_alone, others, refuses, same, values
from flagfree.bars import Bars
from flagfree.errors import BadEnd, BadMenu, BadMove, BadSetting, BadText, NoEnd, TooMany
from flagfree.menus import Menu
from flagfree.moves import Code, Put
from flagfree.prices import Prices
from flagfree.settings import Setting
from oracles import setting_complete, setting_stands, slow_end
from samples import large_setting, moves_of, some_settings

PLAIN = Code.plain("01")
LONG = Code({"0": "011", "1": "10"})
BARS = Bars("01", "111", "000")
TURN = {"0": "1", "1": "0"}


class SettingTest(unittest.TestCase):

    def test_none_stands_for(self):
        for setting in (Setting(BARS), Setting(BARS, None, None), Setting(BARS, None, None, ""), Setting(bars=BARS)):
            self.assertTrue(same(setting.bars, BARS))
            self.assertTrue(same(setting.menu, Menu.plain("01")))
            self.assertTrue(same(setting.prices, Prices("01")))
            self.assertEqual(setting.start, "")

    def test_attributes(self):
        menu, prices = Menu("01", LONG), Prices("01", {"0": 2})
        for setting in (Setting(BARS, menu, prices, "11"), Setting(start="11", prices=prices, menu=menu, bars=BARS)):
            self.assertEqual((setting.bars, setting.menu, setting.prices, setting.start), (BARS, menu, prices, "11"))

    def test_bad_bars(self):
        for value in others(lambda value: isinstance(value, Bars)):
            refuses(self, BadSetting("bars"), Setting, value)
            refuses(self, BadSetting("bars"), Setting, value, 7, 7, 7)

    def test_bad_menu(self):
        for value in others(lambda value: value is None or isinstance(value, Menu) and value.signs == "01"):
            refuses(self, BadSetting("menu"), Setting, BARS, value)
            refuses(self, BadSetting("menu"), Setting, BARS, value, 7, 7)
        refuses(self, BadSetting("menu"), Setting, BARS, Menu.plain("012"))

    def test_bad_prices(self):
        for value in others(lambda value: value is None or isinstance(value, Prices) and value.signs == "01"):
            refuses(self, BadSetting("prices"), Setting, BARS, None, value)
            refuses(self, BadSetting("prices"), Setting, BARS, Menu("01"), value, 7)
        refuses(self, BadSetting("prices"), Setting, BARS, None, Prices("012"))

    def test_bad_start(self):
        for value in others(lambda value: isinstance(value, str) and value in ("", "0", "00", "1", "11")):
            refuses(self, BadEnd(value), Setting, BARS, None, None, value)
        for start in ("", "0", "00", "1", "11"):
            self.assertEqual(Setting(BARS, start=start).start, start)
        refuses(self, BadEnd("0"), Setting, Bars("01", "11"), start="0")
        refuses(self, BadEnd("111"), Setting, BARS, start="111")

    def test_outcomes_by_a_plain_search(self):
        for setting in some_settings(80):
            signs = setting.bars.signs
            for end in setting.bars.ends:
                for move in moves_of(signs):
                    if isinstance(move, Put):
                        pairs = [(None, move.sign)]
                    else:
                        pairs = [(sign, move[sign]) for sign in signs]
                    expected = tuple((sign, text, slow_end(end + text, setting.bars.words)) for sign, text in pairs)
                    self.assertTrue(same(setting.outcomes(end, move), expected))
                    self.assertIs(setting.is_fit(end, move), all(behind is not None for _, _, behind in expected))

    def test_let_by_a_plain_search(self):
        for setting in some_settings(80):
            for end in setting.bars.ends:
                fit = tuple(move for move in setting.menu.moves if setting.is_fit(end, move))
                self.assertTrue(same(setting.let(end), fit))

    def test_let_asked_again_and_again(self):
        turned = Code.chosen("012", {"0": "1", "1": "2", "2": "1"})
        menu = Menu("012", turned, Code.plain("012"), Put("0"), Put("1"), Put("2"))
        bars = Bars("012", "000", "0010", "0011", "0012", "0021", "0022")
        for setting in [Setting(bars, menu), Setting(bars, menu - Menu("012", turned)), large_setting()]:
            words = setting.bars.words
            fit = {}
            for end in setting.bars.ends:
                for move in setting.menu.moves:
                    sent = [move.sign] if isinstance(move, Put) else [word for _, word in move.words]
                    if all(slow_end(end + text, words) is not None for text in sent):
                        fit.setdefault(end, []).append(move)
            for _ in range(2000):
                for end in setting.bars.ends:
                    if setting.let(end) != tuple(fit.get(end, [])):
                        self.fail(f"{setting}: {end!r}")
            for end in setting.bars.ends:
                self.assertTrue(same(setting.let(end), tuple(fit.get(end, []))))
                for move in setting.menu.moves:
                    for _ in range(20):
                        self.assertIs(setting.is_fit(end, move), move in fit.get(end, []))

    def test_let_of_settings_that_are_alike(self):
        setting = Setting(Bars("01", "11"))
        self.assertEqual(setting.let("1"), (Put("0"),))
        self.assertEqual(setting.with_menu(Menu("01", Put("1"))).let("1"), ())
        self.assertEqual(setting.with_bars(Bars("01", "101")).let("1"), (PLAIN, Put("0"), Put("1")))
        self.assertEqual(setting.with_start("1").let("1"), (Put("0"),))
        self.assertEqual(setting, Setting(Bars("01", "11")))

    def test_outcomes_by_hand(self):
        setting = Setting(Bars("01", "11"), Menu("01", PLAIN))
        self.assertTrue(same(setting.outcomes("1", PLAIN), (("0", "0", ""), ("1", "1", None))))
        self.assertTrue(same(setting.outcomes(move=Put("1"), end=""), ((None, "1", "1"),)))
        self.assertTrue(same(setting.outcomes("1", Put("1")), ((None, "1", None),)))
        self.assertTrue(same(setting.outcomes("", Code({"0": "0", "1": "10"})), (("0", "0", ""), ("1", "10", ""))))

    def test_words_completed_amid_a_word(self):
        setting = Setting(Bars("01", "11"), Menu("01", Code({"0": "0", "1": "110"})))
        code = setting.menu.moves[0]
        self.assertTrue(same(setting.outcomes("", code), (("0", "0", ""), ("1", "110", None))))
        self.assertIs(setting.is_fit("", code), False)
        self.assertEqual(setting.let(""), ())
        other = Setting(Bars("01", "010"))
        self.assertTrue(same(other.outcomes("0", Code({"0": "101", "1": "11"})), (("0", "101", None), ("1", "11", ""))))

    def test_moves_that_are_not_in_the_menu(self):
        setting = Setting(Bars("01", "11"), Menu("01"))
        self.assertEqual(setting.let(""), ())
        self.assertIs(setting.is_fit("", PLAIN), True)
        self.assertIs(setting.is_fit(move=PLAIN, end="1"), False)
        self.assertEqual(len(setting.outcomes("1", Code({"0": "0", "1": "10"}))), 2)

    def test_outcomes_errors(self):
        setting = Setting(BARS)
        for value in others(lambda value: isinstance(value, str) and value in BARS.ends):
            refuses(self, NoEnd(value), setting.outcomes, value, 7)
            refuses(self, NoEnd(value), setting.is_fit, value, PLAIN)
            refuses(self, NoEnd(value), setting.let, value)
            refuses(self, NoEnd(value), setting.with_menu(Menu("01")).let, value)
        for value in others(lambda value: isinstance(value, (Put, Code)) and value.is_of("01")):
            refuses(self, BadMove("menu"), setting.outcomes, "1", value)
            refuses(self, BadMove("menu"), setting.is_fit, "", value)
        refuses(self, BadMove("menu"), setting.outcomes, "", Put("2"))
        refuses(self, BadMove("menu"), setting.is_fit, "", Code.plain("012"))

    def test_let_in_the_order_of_the_menu(self):
        menu = Menu("01", LONG, PLAIN, Put("1"), Put("0"))
        setting = Setting(Bars("01", "111"), menu)
        self.assertTrue(same(setting.let(""), (LONG, PLAIN, Put("0"), Put("1"))))
        self.assertTrue(same(setting.let(end="1"), (LONG, PLAIN, Put("0"), Put("1"))))
        self.assertTrue(same(setting.let("11"), (Put("0"),)))

    def test_with_another_part(self):
        setting = Setting(BARS, Menu("01", LONG), Prices("01", {"0": 2}), "1")
        bars, menu, prices = Bars("01", "11"), Menu("01", PLAIN), Prices("01", {"1": 5})
        self.assertEqual(setting.with_bars(bars), Setting(bars, Menu("01", LONG), Prices("01", {"0": 2}), "1"))
        self.assertEqual(setting.with_menu(menu), Setting(BARS, menu, Prices("01", {"0": 2}), "1"))
        self.assertEqual(setting.with_prices(prices), Setting(BARS, Menu("01", LONG), prices, "1"))
        self.assertEqual(setting.with_start("00"), Setting(BARS, Menu("01", LONG), Prices("01", {"0": 2}), "00"))
        self.assertEqual(setting.with_menu(None), Setting(BARS, None, Prices("01", {"0": 2}), "1"))
        self.assertEqual(setting.with_prices(None), Setting(BARS, Menu("01", LONG), None, "1"))
        found = setting.with_bars(bars=bars).with_menu(menu=menu).with_prices(prices=prices).with_start(start="")
        self.assertEqual(found, Setting(bars, menu, prices))
        self.assertEqual(setting, Setting(BARS, Menu("01", LONG), Prices("01", {"0": 2}), "1"))

    def test_with_errors(self):
        setting = Setting(BARS, start="11")
        for value in others(lambda value: isinstance(value, Bars)):
            refuses(self, BadSetting("bars"), setting.with_bars, value)
        for value in others(lambda value: value is None or isinstance(value, Menu) and value.signs == "01"):
            refuses(self, BadSetting("menu"), setting.with_menu, value)
        for value in others(lambda value: value is None or isinstance(value, Prices) and value.signs == "01"):
            refuses(self, BadSetting("prices"), setting.with_prices, value)
        for value in others(lambda value: isinstance(value, str) and value in BARS.ends):
            refuses(self, BadEnd(value), setting.with_start, value)
        refuses(self, BadSetting("menu"), setting.with_bars, Bars("012", "111"))
        refuses(self, BadEnd("11"), setting.with_bars, Bars("01", "11"))

    def test_changed(self):
        setting = Setting(Bars("01", "110"), Menu("01", LONG, Put("1")), Prices("01", {"0": 2}, {"1": 3}), "11")
        expected = Setting(Bars("01", "001"), Menu("01", Code({"1": "100", "0": "01"}), Put("0")),
                           Prices("01", {"1": 2}, {"0": 3}), "00")
        self.assertEqual(setting.changed(TURN), expected)
        self.assertEqual(setting.changed(table=TURN).changed(TURN), setting)
        for value in others(lambda value: value in (TURN, {"0": "0", "1": "1"})):
            refuses(self, BadSetting("table"), setting.changed, value)
        for value in ({"0": "1", "1": "1"}, {"0": "1"}, {"0": "1", "1": "0", "2": "2"}, {"0": "a", "1": "b"},
                      {"0": 0, "1": 1}):
            refuses(self, BadSetting("table"), setting.changed, value)

    def test_equality(self):
        setting = Setting(BARS, Menu("01", PLAIN), Prices("01", {"0": 2}), "1")
        self.assertEqual(setting, Setting(Bars("01", "000", "111"), Menu("01", PLAIN), Prices("01", {"0": 2}), "1"))
        self.assertNotEqual(setting, setting.with_bars(Bars("01", "111")))
        self.assertNotEqual(setting, setting.with_menu(None))
        self.assertNotEqual(setting, setting.with_prices(None))
        self.assertNotEqual(setting, setting.with_start(""))
        for value in values():
            self.assertIs(setting == value, False)

    def test_str(self):
        setting = Setting(Bars("01", "111", "00"), Menu("01", LONG, Put("1")), Prices("01", {"0": 2}), "11")
        self.assertEqual(str(setting), "01 : 00 111 / 01 : code 0 011 1 10 ; put 1 / 01 : 2 1 / 1 1 / 11")
        self.assertEqual(str(Setting(Bars("ab"), Menu("ab"))), "ab : - / ab : - / ab : 1 1 / 1 1 / -")


class ReadTest(unittest.TestCase):

    def test_back_and_forth(self):
        for setting in some_settings(200):
            self.assertTrue(same(Setting.read(str(setting)), setting))
        self.assertEqual(Setting.read(text=str(Setting(BARS))), Setting(BARS))

    def test_spoilt_texts(self):
        more = ["01", "012", ":", "-", ";", "/", "put", "code", "0", "1", "2", "00", "11", "110", "9", "", "0\n",
                "0110"]
        for text in ("01 : 110 / 01 : code 0 0 1 1 ; put 0 / 01 : 2 1 / 1 3 / 11",
                     "01 : - / 01 : - / 01 : 1 1 / 1 1 / -", "01 : 0 / 01 : put 1 / 01 : 1 1 / 1 1 / -",
                     "01 : 00 0101 / 01 : put 0 ; put 1 / 01 : 1 1 / 1 1 / 010"):
            check_read(self, Setting.read, text.split(" "), more, setting_stands, setting_complete)

    def test_by_hand(self):
        for text, word in (("", 0), ("01 : 11 /", 4), ("01 : 11 / 012", 4), ("01 : 11 / 01 : - / 012", 8),
                           ("01 : 11 / 01 : - / 01 : 1 1 / 1 1 /", 16), ("01 : 11 / 01 : - / 01 : 1 1 / 1 1 / 11", 16),
                           ("01 : 11 / 01 : - / 01 : 1 1 / 1 1 / 0", 16), ("01 : 11 / 01 : - / 01 : 1 1 / 1 1 / ", 16),
                           ("01 : 11 / 01 : - / 01 : 1 1 / 1 1 / - -", 17), ("01 : 11 / 01 : - / 01 : 1 1 / 1 1", 15)):
            refuses(self, BadText(0, word), Setting.read, text)

    def test_what_the_classes_raise(self):
        words = " ".join(["0001", "0010", "0011", "0100", "0101", "0110", "0111", "1000", "1001"])
        code = "code 0 0 1 1"
        rest = " / 01 : 1 1 / 1 1 / -"
        refuses(self, TooMany("words", 8), Setting.read, f"01 : {words} / 01 : {code}{rest}")
        refuses(self, TooMany("words", 8), Setting.read, f"01 : {words} / 01 : {code} ; {code}{rest}")
        refuses(self, BadMenu(1), Setting.read, f"01 : 11 / 01 : {code} ; {code}{rest}")
        refuses(self, BadText(0, 26), Setting.read, f"01 : 11 / 01 : {code} ; {code}{rest[:-1]}0 -")
        many = "00000000 11111111 22222222 3333"
        text = f"0123 : {many} / 0123 : - / 0123 : 1 1 1 1 / 1 1 1 1 / "
        refuses(self, TooMany("ends", 24), Setting.read, text + "333")
        refuses(self, BadText(0, 23), Setting.read, text + "3333")

    def test_other_values(self):
        check_reads_strings_alone(self, Setting.read)


if __name__ == "__main__":
    unittest.main()
