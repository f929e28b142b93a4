import random
import unittest

from common import check_read, check_reads_strings_alone, others, refuses, same, values
from flagfree.bars import Bars
from flagfree.errors import (BadEnd, BadMove, BadRule, BadSent, BadSetting, BadTable, BadText, NoEnd, Refused,
                             Stuck)
from flagfree.menus import Menu
from flagfree.moves import Code, Move, Put
from flagfree.rules import By, Joined, Late, Rule, Table
from flagfree.settings import Setting
from oracles import SIGNS, is_text, slow_end, slow_rounds, table_complete, table_stands, texts
from samples import some_settings, some_tables

PLAIN = Code.plain("01")
TURNED = Code({"0": "1", "1": "0"})
FIVE = Setting(Bars("01", "111111"))
RULES = [Table({"": PLAIN}), Late(), By(lambda sent, setting: PLAIN), Late() | Table({"": PLAIN})]


def is_end(value):
    return is_text(value, SIGNS) and len(value) <= 7


def slow_reached(table, setting):
    """The ends that come, as a list, and the first one at which the table is stuck."""
    met = [setting.start]
    for end in met:
        if end not in table or table[end] not in setting.menu or not setting.is_fit(end, table[end]):
            return met, end
        for _, _, behind in setting.outcomes(end, table[end]):
            if behind not in met:
                met.append(behind)
    return met, None


def slow_late(setting):
    """The moves that Late tells at the ends that are not lost, by the definition."""
    lost = slow_rounds(setting)
    is_open = [end for end in setting.bars.ends if end not in lost]
    found, distance = {}, {}
    for end in is_open:
        for code in setting.menu.codes:
            if end not in found and all(behind in is_open for _, _, behind in setting.outcomes(end, code)):
                found[end], distance[end] = code, 0
    for steps in range(len(is_open)):
        for end in is_open:
            behind = {put.sign: setting.outcomes(end, put)[0][2] for put in setting.menu.puts}
            near = [sign for sign in sorted(behind) if distance.get(behind[sign]) == steps]
            if end not in found and near:
                found[end], distance[end] = Put(near[0]), steps + 1
    return found


class RuleTest(unittest.TestCase):

    def test_all_are_rules(self):
        for rule in RULES:
            self.assertIsInstance(rule, Rule)
        self.assertIsInstance(RULES[3], Joined)

    def test_bad_setting(self):
        for rule in RULES:
            for value in others(lambda value: isinstance(value, Setting)):
                refuses(self, BadSetting("setting"), rule, "", value)
                refuses(self, BadSetting("setting"), rule, 7, value)

    def test_bad_sent(self):
        setting = Setting(Bars("01", "11"), start="1")
        for rule in RULES:
            for value in others(lambda value: is_text(value, "01") and "11" not in "1" + value):
                refuses(self, BadSent(value), rule, value, setting)
            refuses(self, BadSent("1"), rule, "1", setting)
            refuses(self, BadSent("0110"), rule, "0110", setting)
            refuses(self, BadSent("02"), rule, "02", setting)

    def test_bad_sent_ahead_of_what_the_rule_raises(self):
        refuses(self, BadSent("11"), By(lambda sent, setting: 7), "11", Setting(Bars("01", "11")))

    def test_by_name(self):
        for rule in RULES:
            self.assertEqual(rule(setting=FIVE, sent=""), PLAIN)

    def test_bad_other(self):
        for rule in RULES:
            for value in others(lambda value: isinstance(value, Rule)):
                refuses(self, BadRule("other"), lambda: rule | value)

    def test_equality(self):
        rows = RULES + [Table({}), Table({"": TURNED}), By(len), Table({"": PLAIN}) | Late(), Late() | Late()]
        for k, one in enumerate(rows):
            for m, other in enumerate(rows):
                self.assertIs(one == other, k == m)
            for value in others(lambda value: isinstance(value, Rule)):
                self.assertIs(one == value, False)
        self.assertIs(Late() == Late(), True)
        self.assertIs(By(len) == By(len), True)
        self.assertIs(By(len) == By(lambda sent, setting: None), False)
        self.assertIs(Table({"": PLAIN}) != Table({"": PLAIN}), False)


class TableTest(unittest.TestCase):

    def test_attributes(self):
        table = Table({"10": PLAIN, "": Put("0"), "b": Put("1"), "1": TURNED, "01": PLAIN, "0000000": PLAIN})
        self.assertTrue(same(table.moves, (("", Put("0")), ("1", TURNED), ("b", Put("1")), ("01", PLAIN),
                                           ("10", PLAIN), ("0000000", PLAIN))))
        self.assertEqual(list(table), ["", "1", "b", "01", "10", "0000000"])
        self.assertEqual((len(table), bool(table), len(Table({})), bool(Table({}))), (6, True, 0, False))
        self.assertTrue(same(Table(moves={}).moves, ()))

    def test_order_of_the_dict_means_nothing(self):
        draw = random.Random(23)
        ends = ["", "0", "1", "z", "00", "01", "zz", "0a0"]
        for _ in range(30):
            draw.shuffle(ends)
            table = Table({end: PLAIN for end in ends})
            self.assertEqual([end for end, _ in table.moves], sorted(sorted(ends), key=len))
            self.assertEqual(table, Table({end: PLAIN for end in sorted(ends)}))

    def test_later_changes_of_the_dict(self):
        moves = {"": PLAIN}
        table = Table(moves)
        moves[""] = Put("0")
        moves["1"] = Put("0")
        self.assertEqual((table[""], len(table), "1" in table, str(table)), (PLAIN, 1, False, "- : code 0 0 1 1"))
        self.assertIsNone(table("1", FIVE))
        self.assertEqual(table("0", FIVE), PLAIN)

    def test_bad_moves(self):
        for value in others(lambda value: isinstance(value, dict)):
            refuses(self, BadTable("moves"), Table, value)
        refuses(self, BadTable("moves"), Table, [("", PLAIN)])
        for value in others(lambda value: isinstance(value, Move)):
            refuses(self, BadMove("move"), Table, {"": PLAIN, "0": value})

    def test_bad_ends(self):
        for value in others(is_end):
            try:
                hash(value)
            except TypeError:
                continue
            refuses(self, BadEnd(value), Table, {"": 7, value: PLAIN, "-": PLAIN})
        refuses(self, BadEnd("00000000"), Table, {"0000000": PLAIN, "00000000": PLAIN})
        refuses(self, BadEnd("A"), Table, {"0": None, "A": PLAIN, "": PLAIN, 7: PLAIN})
        refuses(self, BadEnd("-"), Table, {"-": PLAIN})

    def test_items(self):
        table = Table({"": PLAIN, "0": Put("0"), "ab": TURNED})
        self.assertTrue(same([table[end] for end in table], [PLAIN, Put("0"), TURNED]))
        for value in values():
            self.assertIs(value in table, value in ("", "0", "ab") if isinstance(value, str) else False)
        for value in others(lambda value: isinstance(value, str) and value in ("", "0", "ab")):
            refuses(self, NoEnd(value), lambda: table[value])

    def test_with_move(self):
        table = Table({"": PLAIN, "1": Put("0")})
        self.assertEqual(table.with_move("1", Put("1")), Table({"": PLAIN, "1": Put("1")}))
        self.assertEqual(table.with_move(move=TURNED, end="0"), Table({"": PLAIN, "0": TURNED, "1": Put("0")}))
        self.assertEqual(table, Table({"": PLAIN, "1": Put("0")}))
        self.assertEqual(len(table.with_move("z" * 7, PLAIN)), 3)
        for value in others(is_end):
            refuses(self, BadEnd(value), table.with_move, value, 7)
        for value in others(lambda value: isinstance(value, Move)):
            refuses(self, BadMove("move"), table.with_move, "1", value)
        refuses(self, BadEnd("z" * 8), table.with_move, "z" * 8, PLAIN)

    def test_call(self):
        draw = random.Random(29)
        for setting in some_settings(60):
            words = setting.bars.words
            for table in some_tables(draw, setting, 1):
                for sent in texts(setting.bars.signs, 4 if len(setting.bars.signs) < 3 else 3):
                    end = slow_end(setting.start + sent, words)
                    if end is None:
                        refuses(self, BadSent(sent), table, sent, setting)
                    else:
                        self.assertEqual(table(sent, setting), table[end] if end in table else None)

    def test_call_tells_any_move(self):
        table = Table({"": Put("z"), "1": TURNED})
        self.assertEqual((table("", FIVE), table("1", FIVE), table("11", FIVE)), (Put("z"), TURNED, None))

    def test_reached_by_a_plain_search(self):
        draw = random.Random(31)
        stuck = 0
        for setting in some_settings(200):
            for table in some_tables(draw, setting, 3):
                met, at = slow_reached(table, setting)
                if at is None:
                    self.assertTrue(same(table.reached(setting), tuple(met)))
                else:
                    stuck += 1
                    refuses(self, Stuck(at), table.reached, setting)
        self.assertGreater(stuck, 50)

    def test_reached_by_hand(self):
        bars = Bars("012", "2222", "10", "021")
        setting = Setting(bars, start="1")
        self.assertEqual(bars.ends, ("", "0", "02", "1", "2", "22", "222"))
        table = Table({"1": Put("2"), "2": Code.plain("012"), "22": Put("0"), "0": Put("0"), "": Put("0"), "02": PLAIN})
        refuses(self, Stuck("0"), table.with_move("0", PLAIN).reached, setting)
        self.assertEqual(table.with_move("2", Put("1")).reached(setting=setting), ("1", "2"))
        self.assertEqual(table.reached(setting.with_start("22")), ("22", "0"))
        codes = table.with_move("1", Put("1"))
        self.assertEqual(codes.reached(setting), ("1",))
        self.assertEqual(table.reached(setting), ("1", "2", "0", "22"))

    def test_reached_stuck_at_the_first_end(self):
        setting = Setting(Bars("012", "000", "111", "222"), Menu("012", Code.plain("012"), Put("0")))
        plain = Code.plain("012")
        whole = {"": plain, "0": plain, "1": plain, "2": plain, "00": Put("0"), "11": Put("0"), "22": Put("0")}
        refuses(self, Stuck("00"), Table(whole).reached, setting)
        refuses(self, Stuck("2"), Table({**whole, "2": Put("1")}).reached, setting)
        refuses(self, Stuck("1"), Table({**whole, "1": Put("1"), "2": Put("z")}).reached, setting)
        refuses(self, Stuck(""), Table({end: whole[end] for end in whole if end != ""}).reached, setting)

    def test_reached_errors(self):
        for value in others(lambda value: isinstance(value, Setting)):
            refuses(self, BadSetting("setting"), Table({}).reached, value)
        refuses(self, Stuck(""), Table({}).reached, FIVE)
        refuses(self, Stuck("11"), Table({"": PLAIN}).reached, FIVE.with_start("11"))

    def test_str(self):
        table = Table({"11": Put("0"), "": PLAIN, "1": Code({"0": "00", "1": "01"})})
        self.assertEqual(str(table), "- : code 0 0 1 1 ; 1 : code 0 00 1 01 ; 11 : put 0")
        self.assertEqual(str(Table({})), "table")
        self.assertEqual(str(Table({"table": Put("0")})), "table : put 0")

    def test_read_back(self):
        draw = random.Random(37)
        rows = [Table({}), Table({"table": PLAIN}), Table({"table": PLAIN, "zzzzzzz": Put("z")})]
        for setting in some_settings(60):
            rows.extend(some_tables(draw, setting, 2))
        for table in rows:
            found = Table.read(str(table))
            self.assertTrue(same(found, table))
        self.assertEqual(Table.read(text="0 : put 1"), Table({"0": Put("1")}))

    def test_read_spoilt_texts(self):
        more = ["-", ":", ";", "put", "code", "0", "1", "a", "00", "table", "zzzzzzz", "00000000", "", "0\n", "A",
                "0000"]
        for text in ("- : code 0 0 1 1 ; 1 : put 0", "0 : put a ; z : code a aa ; 00 : put 0", "table",
                     "table : put 0 ; zzzzzzz : put 1", "- : put 0 ; zzzzzzz : code z 0 ; aaaaaaa : put 0"):
            check_read(self, Table.read, text.split(" "), more, table_stands, table_complete)

    def test_read_by_hand(self):
        for text, word in (("", 0), ("-", 1), ("table table", 1), ("table :", 2), ("- : put 0 ;", 5),
                           ("- : put 0 ; -", 5),
                           ("0 : put 0 ; -", 5), ("1 : put 0 ; 0 : put 0", 5), ("00 : put 0 ; 1 : put 0", 5),
                           ("0 : put 0 ; 0 : put 0", 5), ("- : put 0 0", 4), ("- : code 0 0 1", 6),
                           ("00000000 : put 0", 0),
                           ("- put 0", 1), ("- : table", 2), ("- : put 0 ; 0", 6), ("- : put 0 ", 4), ("table ", 1)):
            refuses(self, BadText(0, word), Table.read, text)

    def test_read_other_values(self):
        check_reads_strings_alone(self, Table.read)


class LateTest(unittest.TestCase):

    def check_setting(self, setting):
        found = slow_late(setting)
        late = Late()
        for sent in texts(setting.bars.signs, 4 if len(setting.bars.signs) < 3 else 3):
            end = slow_end(setting.start + sent, setting.bars.words)
            if end is None:
                refuses(self, BadSent(sent), late, sent, setting)
            else:
                self.assertEqual(late(sent, setting), found.get(end), (str(setting), sent))
        for end in setting.bars.ends:
            self.assertEqual(late("", setting.with_start(end)), found.get(end))

    def test_by_a_plain_search(self):
        for setting in some_settings(150):
            self.check_setting(setting)
            self.check_setting(setting.with_menu(None))

    def test_lost_ends(self):
        setting = Setting(Bars("01", "110", "111"))
        self.assertEqual([Late()(sent, setting) for sent in ("", "1", "11", "01")], [PLAIN, Put("0"), None, Put("0")])
        both = Setting(Bars("01", "00", "11"))
        self.assertEqual([Late()(sent, both) for sent in ("", "0", "1")], [None, None, None])

    def test_codes_in_the_order_of_the_menu(self):
        for codes in ((PLAIN, TURNED), (TURNED, PLAIN)):
            setting = Setting(Bars("01", "111"), Menu("01", *codes, Put("0")))
            self.assertEqual(Late()("1", setting), codes[0])
            self.assertEqual(Late()("11", setting), Put("0"))
        wide = Code({"0": "00", "1": "01"})
        setting = Setting(Bars("01", "111"), Menu("01", PLAIN, wide))
        self.assertEqual([Late()(sent, setting) for sent in ("", "1", "11")], [PLAIN, PLAIN, wide])

    def test_nearest_puts(self):
        setting = Setting(Bars("012", "22", "200"))
        self.assertEqual([Late()(sent, setting) for sent in ("", "2", "20")], [Code.plain("012"), Put("1"), Put("1")])
        setting = Setting(Bars("012", "11", "12", "101", "102"))
        self.assertEqual([Late()(sent, setting) for sent in ("1", "10", "100")],
                         [Put("0"), Put("0"), Code.plain("012")])
        setting = Setting(Bars("012", "00", "01"))
        self.assertEqual(Late()("0", setting), Put("2"))
        setting = Setting(Bars("012", "02"))
        self.assertEqual(Late()("0", setting), Put("1"))

    def test_no_codes(self):
        for menu in (Menu("01"), Menu("01", Put("0"), Put("1"))):
            self.assertIsNone(Late()("", Setting(Bars("01", "11"), menu)))

    def test_one_object_for_several_settings(self):
        late = Late()
        one, other = FIVE, Setting(Bars("01", "11"))
        for _ in range(3):
            self.assertEqual((late("1", one), late("1", other)), (PLAIN, Put("0")))
            self.assertEqual(late("11111", one), Put("0"))
            self.assertEqual(late("1", other.with_menu(Menu("01", PLAIN))), None)
            self.assertEqual(late("", other.with_start("1")), Put("0"))

    def test_str(self):
        self.assertEqual(str(Late()), "late")


class ByTest(unittest.TestCase):

    def test_what_it_is_passed(self):
        rows = []

        def work(*told, **more):
            rows.append((told, more))
            return PLAIN

        self.assertEqual(By(work)("1011", FIVE), PLAIN)
        self.assertEqual(By(work=work)("", FIVE), PLAIN)
        self.assertEqual([(told[0], more) for told, more in rows], [("1011", {}), ("", {})])
        self.assertTrue(all(len(told) == 2 and told[1] == FIVE for told, _ in rows))

    def test_start_is_no_part_of_what_was_sent(self):
        rows = []
        By(lambda sent, setting: rows.append(sent))("01", FIVE.with_start("11"))
        self.assertEqual(rows, ["01"])

    def test_what_it_returns(self):
        for value in values():
            rule = By(lambda sent, setting: value)
            if value is None or isinstance(value, Move):
                self.assertTrue(same(rule("", FIVE), value))
            else:
                refuses(self, BadRule("move"), rule, "", FIVE)

    def test_errors_go_on(self):
        def raising(error):
            def work(sent, setting):
                raise error
            return By(work)

        for error in (Refused(3), BadSent("1"), Stuck("1"), KeyError("x"), ZeroDivisionError()):
            with self.assertRaises(type(error)) as caught:
                raising(error)("", FIVE)
            self.assertIs(caught.exception, error)

    def test_str(self):
        self.assertEqual(str(By(len)), "by")


class JoinedTest(unittest.TestCase):

    def test_two(self):
        table = Table({"1": Put("1"), "11": Put("0")})
        rule = table | Late()
        self.assertEqual([rule(sent, FIVE) for sent in ("", "1", "11", "111", "11111")],
                         [PLAIN, Put("1"), Put("0"), PLAIN, Put("0")])
        rule = Late() | table
        self.assertEqual([rule(sent, FIVE) for sent in ("", "1", "11", "11111")], [PLAIN, PLAIN, PLAIN, Put("0")])

    def test_three(self):
        one, two, three = Table({"": Put("0")}), Table({"": Put("1"), "1": Put("1")}), By(lambda sent, setting: TURNED)
        for rule in (one | two | three, one | (two | three)):
            self.assertEqual([rule(sent, FIVE) for sent in ("", "1", "11")], [Put("0"), Put("1"), TURNED])
        self.assertIsNone((one | two)("11", FIVE))

    def test_each_is_asked_once(self):
        rows = []
        one = By(lambda sent, setting: rows.append("one" + sent))
        two = By(lambda sent, setting: rows.append("two" + sent))
        three = By(lambda sent, setting: rows.append("three" + sent) or PLAIN)
        self.assertEqual((one | two | three)("1", FIVE), PLAIN)
        self.assertEqual(rows, ["one1", "two1", "three1"])
        self.assertEqual((three | one)("0", FIVE), PLAIN)
        self.assertEqual(rows[3:], ["three0"])

    def test_errors_go_on(self):
        refuses(self, BadRule("move"), By(lambda sent, setting: "put 0") | Late(), "", FIVE)
        refuses(self, BadRule("move"), Table({}) | By(lambda sent, setting: 7), "", FIVE)
        self.assertEqual((Late() | By(lambda sent, setting: 7))("", FIVE), PLAIN)

    def test_equality(self):
        one, two, three = Table({"": PLAIN}), Late(), By(len)
        self.assertEqual((one | two) | three, one | (two | three))
        self.assertEqual(one | two | three | one, one | (two | (three | one)))
        self.assertEqual((one | two) | (three | one), one | (two | three) | one)
        self.assertNotEqual(one | two, two | one)
        self.assertNotEqual(one | two, one | two | two)
        self.assertNotEqual(one | one, one)
        self.assertNotEqual(one | three, one | By(lambda sent, setting: None))

    def test_in_place(self):
        rule = first = Table({"": PLAIN})
        rule |= Late()
        self.assertEqual((rule, first), (Table({"": PLAIN}) | Late(), Table({"": PLAIN})))

    def test_str(self):
        self.assertEqual(str(Table({"": Put("0")}) | Late()), "- : put 0 | late")
        self.assertEqual(str(Late() | (By(len) | Table({}))), "late | by | table")
        self.assertEqual(str((Late() | By(len)) | Late()), "late | by | late")


if __name__ == "__main__":
    unittest.main()
