import random
import unittest

from common import first_bad, others, refuses, same, spoilt, values
from flagfree.bars import Bars
from flagfree.best import count_best, first_best
from flagfree.coding import coded, decoded
from flagfree.compared import Never, compared, same_text
from flagfree.desk import Desk
from flagfree.errors import BadLine, FlagError
from flagfree.flags import flags_of
from flagfree.least import least_rate
from flagfree.menus import Menu
from flagfree.moves import Code, Put
from flagfree.rates import worst
from flagfree.rules import Table
from flagfree.settings import Setting
from flagfree.sizes import size
from flagfree.stacks import Layer, Stack
from flagfree.traps import rounds
from oracles import (SIGNS, bars_complete, bars_stands, is_text, move_complete, move_stands, setting_complete,
                     setting_stands, table_complete, table_stands)
from samples import mixed_settings, open_settings, some_settings, some_tables, sound_tables

PLAIN = Code.plain("01")
ONES = Setting(Bars("01", "111111"))
BOTH = Setting(Bars("01", "00", "11"))
# For each first word the kinds of its parts: N a name that need not be there, S and T names of settings and of tables,
# A any name, I signs, # a number, and then perhaps a text.
LINES = {"bars": ("N", bars_stands, bars_complete), "setting": ("N", setting_stands, setting_complete),
         "table": ("N", table_stands, table_complete), "start": ("SI",), "best": ("NS",),
         "at": ("TI", move_stands, move_complete), "drop": ("A",), "undo": ("",), "show": ("A",), "send": ("STI",),
         "read": ("STI",), "rate": ("S",), "worst": ("ST",), "rounds": ("S",), "size": ("S#",), "count": ("S",),
         "excess": ("STT",), "same": ("STT",), "stack": ("STST",), "flags": ("S#",)}
RIGHT = ["bars s 01 : 00 111", "setting u 01 : 11 / 01 : code 0 0 1 1 ; put 0 / 01 : 1 1 / 1 1 / 1", "table t table",
         "table v - : code 0 0 1 1 ; 1 : put 0", "start s 11", "start s -", "best t s", "at t - code 0 0 1 1",
         "at t 0 put 1", "drop t", "undo", "show s", "send s t 0110", "send s t -", "read s t 01", "rate s",
         "worst s t", "rounds s", "size s 12", "size s 0", "count s", "excess s t v", "same s t v", "stack s t u v",
         "flags s 3"]
WORDS = ["", "0", "00", "01", "-", ":", ";", "/", "put", "code", "s", "t", "z9", "A", "undo", "table", "abcdefghi",
         "7\n", "\n", "9" * 30, "1" + "0" * 30]


def part_stands(kind, word):
    if kind in "NSTA":
        return word.isalpha() and word.islower() and word.isascii() and len(word) <= 8
    if kind == "I":
        return word == "-" or word != "" and is_text(word, SIGNS)
    return word != "" and is_text(word, "0123456789") and len(word) <= 30 and str(int(word)) == word


def stands(ahead, word):
    """Whether a word can stand in a line behind others."""
    if len(ahead) == 0:
        return word in LINES
    kinds, *more = LINES[ahead[0]]
    if len(ahead) <= len(kinds):
        return part_stands(kinds[len(ahead) - 1], word)
    return len(more) > 0 and more[0](ahead[1 + len(kinds):], word)


def complete(words):
    kinds, *more = LINES[words[0]]
    if not more:
        return len(words) == 1 + len(kinds)
    return len(words) > 1 + len(kinds) and more[1](words[1 + len(kinds):])


def wrong_word(line):
    """The index of the first word of a line that cannot stand, None if it is right."""
    return first_bad(line.split(" "), stands, complete) if isinstance(line, str) else 0


def kept(desk):
    """All that a desk keeps."""
    return {name: (desk.setting_of(name), desk.table_of(name)) for name in desk.names}, len(desk)


def answered(work, *args):
    """The answer to a line that asks for this."""
    try:
        return work(*args)
    except FlagError as error:
        return "refused " + type(error).__name__


def or_none(value):
    return "none" if value is None else str(value)


def excess_of(*told):
    found = compared(*told)
    return str(found.excess) if isinstance(found, Never) else "grows"


def rounds_of(setting):
    lost = rounds(setting)
    return " ; ".join(f"{end or '-'} {lost[end]}" for end in sorted(lost)) or "none"


def flags_told(setting, letters):
    found = flags_of(setting, letters)
    return "none" if found.rate is None else " ".join(found.words)


def desk_with(**things):
    """A desk that keeps these settings and tables."""
    desk = Desk()
    for name, thing in things.items():
        desk.say(f"{'setting' if isinstance(thing, Setting) else 'table'} {name} {thing}")
    return desk


class LineTest(unittest.TestCase):

    def test_right_lines(self):
        for line in RIGHT:
            self.assertIsNone(wrong_word(line))
            desk = Desk()
            answer = desk.say(line)
            self.assertTrue(type(answer) is str and "\n" not in answer)
            self.assertTrue(same(Desk()(line), answer) and same(Desk().run(line), [answer]))
            self.assertEqual(same(Desk().say(line=line), answer), True)

    def test_spoilt_lines(self):
        desk = desk_with(s=ONES, t=Table({"": PLAIN}))
        before = kept(desk)
        many = {}
        for line in RIGHT:
            for row in spoilt(line.split(" "), WORDS):
                bad = wrong_word(" ".join(row))
                if bad is not None:
                    for work in (desk.say, desk, desk.run):
                        refuses(self, BadLine(bad), work, " ".join(row))
                    many[line.split(" ")[0], bad] = True
                else:
                    self.assertIsInstance(Desk().say(" ".join(row)), str)
        self.assertEqual(kept(desk), before)
        self.assertGreater(len(many), 80)

    def test_by_hand(self):
        for line, word in (("", 0), ("rates s", 0), ("bars s 01 : 11 1", 5), ("send s t", 3), ("undo ", 1),
                           (" undo", 0),
                           ("undo undo", 1), ("drop", 1), ("drop s t", 2), ("show S", 1), ("show abcdefgh1", 1),
                           ("show abcdefghi", 1), ("size s 007", 2), ("size s 00", 2), ("size s -1", 2),
                           ("size s x", 2),
                           ("size s " + "9" * 31, 2), ("at t", 2), ("at t - put", 4), ("at t - put 0 1", 5),
                           ("send s t 01A", 3), ("send s t --", 3), ("rate s\n", 1), ("rate\n", 0), ("rate s \n", 2),
                           ("table t table table", 3), ("table t", 2), ("setting s 01 : 11 /", 6), ("bars s", 2),
                           ("bars s 01 :  11", 4), ("rate  s", 1), ("best t s u", 3), ("stack s t u", 4)):
            self.assertEqual(wrong_word(line), word)
            refuses(self, BadLine(word), Desk().say, line)
        for line in ("size s " + "9" * 30, "show abcdefgh", "size s 0", "at t zzzzzzzzzz put 0"):
            self.assertTrue(Desk().say(line).startswith("lacks "))

    def test_values(self):
        for value in values():
            if value != "undo":
                desk = Desk()
                refuses(self, BadLine(wrong_word(value)), desk.say, value)
                refuses(self, BadLine(wrong_word(value)), desk, value)
                refuses(self, BadLine(wrong_word(value)), desk.run, "undo", value, None)


class LacksTest(unittest.TestCase):

    def test_names_that_are_missing_or_of_the_other_kind(self):
        things = {"s": ONES, "u": BOTH, "t": Table({"": PLAIN}), "v": Table({})}
        many = 0
        for line in RIGHT:
            words = line.split(" ")
            kinds = LINES[words[0]][0]
            for k, kind in enumerate(kinds):
                if kind not in "NSTA":
                    continue
                for name in ("s", "t", "q"):
                    row = words[:k + 1] + [name] + words[k + 2:]
                    desk = desk_with(**things)
                    before = kept(desk)
                    lacks = [told for kind, told in zip(kinds, row[1:])
                             if kind == "S" and not isinstance(things.get(told), Setting)
                             or kind == "T" and not isinstance(things.get(told), Table)
                             or kind == "A" and told not in things]
                    answer = desk.say(" ".join(row))
                    if lacks:
                        self.assertEqual((answer, kept(desk)), (f"lacks {lacks[0]}", before))
                        many += 1
                    else:
                        self.assertFalse(answer.startswith("lacks"))
        self.assertGreater(many, 40)

    def test_ahead_of_refused(self):
        desk = desk_with(s=ONES, t=Table({}))
        self.assertEqual(desk.say("at q 00000000 put 0"), "lacks q")
        self.assertEqual(desk.say("at t 00000000 put 0"), "refused BadEnd")
        self.assertEqual([desk.say("stack s t s q"), desk.say("stack t q s s"), desk.say("stack s t u v")],
                         ["lacks q", "lacks t", "lacks u"])
        self.assertEqual([desk.say("worst t s"), desk.say("worst s s"), desk.say("send t t 7")],
                         ["lacks t", "lacks s", "lacks t"])
        self.assertEqual([desk.say("best s t"), desk.say("best q q"), desk.say("best s s"), desk.say("rate s")],
                         ["lacks t", "lacks q", "ok", "lacks s"])
        self.assertEqual(desk.table_of("s"), first_best(ONES))

    def test_an_empty_table_is_there(self):
        desk = Desk()
        self.assertEqual(desk.run("table t table", "show t", "at t - put 0", "undo", "show t", "drop t", "show t"),
                         ["ok", "table", "ok", "ok", "table", "ok", "lacks t"])


class AnswerTest(unittest.TestCase):

    def check(self, setting, tables, draw):
        one, other = tables
        desk = desk_with(s=setting, t=one, v=other, u=setting.with_start(draw.choice(setting.bars.ends)))
        there = desk.setting_of("u")
        content = draw.choice(texts_of(setting, draw)) or "-"
        letters = draw.randint(0, 4)
        rows = {"show s": str(setting), "show t": str(one), "show v": str(other),
                f"send s t {content}": answered(lambda: coded(one, setting, content.replace("-", "")) or "-"),
                f"read s t {content}": answered(lambda: decoded(one, setting, content.replace("-", "")) or "-"),
                "rate s": or_none(least_rate(setting)), "rate u": or_none(least_rate(there)),
                "worst s t": answered(lambda: str(worst(setting, one).rate)),
                "rounds s": rounds_of(setting), "size s 7": or_none(size(setting, 7)),
                "size s 1000": answered(lambda: or_none(size(setting, 1000))),
                "count s": answered(lambda: str(count_best(setting))),
                "excess s t v": answered(lambda: excess_of(setting, one, other)),
                "same s t v": answered(lambda: same_text(setting, one, other) or "same"),
                "stack s t u v": answered(lambda: str(Stack(Layer(setting, one), Layer(there, other)).worst().rate)),
                f"flags s {letters}": answered(lambda: flags_told(setting, letters))}
        before = kept(desk)
        for line, answer in rows.items():
            self.assertTrue(same(desk.say(line), answer), line)
        self.assertEqual(kept(desk), before)
        self.assertEqual(desk.run(*rows), list(rows.values()))
        return rows.values()

    def test_by_the_functions(self):
        draw = random.Random(313)
        told = []
        for setting in some_settings(30) + open_settings(mixed_settings(60)):
            tables = sound_tables(draw, setting, 2) + some_tables(draw, setting, 2) + [Table({})]
            told += self.check(setting, tables[:2] if len(tables) > 1 else tables * 2, draw)
        for answer in ("grows", "same", "none", "-", "refused Stuck", "refused NoWay", "refused Refused",
                       "refused BadTable", "refused BadNumber", "refused TooMany", "0", "2"):
            self.assertTrue(answer in told, answer)

    def test_by_hand(self):
        desk = desk_with(s=ONES, b=BOTH, l=Setting(Bars("01", "110", "111")))
        self.assertEqual(desk.run("best t s", "send s t 1111110", "send s t -", "read s t -", "read s t 111110",
                                  "read s t 1111111", "send s t 012", "read s t 2"),
                         ["ok", "11111010", "-", "-", "refused Refused", "refused Refused", "refused BadContent",
                          "refused BadSent"])
        self.assertEqual(desk.run("rounds l", "rounds s", "rounds b", "rate b", "size b 2", "size b " + "9" * 30,
                                  "count b", "best t b", "flags b 1", "flags s 2", "flags s 7", "flags s 9"),
                         ["11 1", "none", "- 2 ; 0 1 ; 1 1", "none", "none", "none", "refused NoWay", "refused NoWay",
                          "none", "00 11", "refused TooMany", "refused BadNumber"])
        self.assertEqual(desk.run("size s " + "9" * 30, "size s 0", "rate s", "worst s t", "excess s t t",
                                  "same s t t"),
                         [str(10 ** 30 - 1 + (10 ** 30 - 2) // 5), "0", "6/5", "6/5", "0", "same"])

    def test_a_size_without_a_round(self):
        for setting in open_settings(mixed_settings(40)):
            desk = desk_with(s=setting)
            self.assertTrue(same(desk.say("size s 500"), answered(lambda: or_none(size(setting, 500)))))

    def test_stacks_of_two_layers(self):
        ones, zeros = Setting(Bars("01", "11")), Setting(Bars("01", "00"))
        desk = desk_with(s=ones, t=Table({"": PLAIN, "1": Put("0")}), u=zeros, v=Table({"": PLAIN, "0": Put("1")}))
        self.assertEqual([desk("stack s t u v"), desk("stack s v u v"), desk("stack u v s t")],
                         ["3", "refused BadTable", "3"])
        desk.say("bars w ab : -")
        desk.say("table x - : code a a b b")
        self.assertEqual([desk("stack s t w x"), desk("stack w x w x"), desk("worst w t")],
                         ["refused BadSetting", "1", "refused Stuck"])


def texts_of(setting, draw):
    """Some contents."""
    return ["".join(draw.choice(setting.bars.signs) for _ in range(n)) for n in range(7)]


class ChangeTest(unittest.TestCase):

    def test_things(self):
        desk = Desk()
        self.assertEqual(desk.say("bars s 01 : 111"), "ok")
        self.assertTrue(same(desk.setting_of("s"), Setting(Bars("01", "111"))))
        setting = Setting(Bars("ab", "aab"), Menu("ab", Put("a"), Code.plain("ab")), None, "aa")
        self.assertEqual(desk.say(f"setting u {setting}"), "ok")
        self.assertTrue(same(desk.setting_of("u"), setting))
        table = Table({"": PLAIN, "0": Put("z")})
        self.assertEqual(desk.say(f"table t {table}"), "ok")
        self.assertTrue(same(desk.table_of("t"), table))
        for line, start in (("start s 11", "11"), ("start s -", "")):
            self.assertEqual([desk(line), desk.setting_of("s").start], ["ok", start])
        self.assertEqual([desk("at t 1 code 0 00 1 1"), desk.table_of("t")["1"]], ["ok", Code({"0": "00", "1": "1"})])
        self.assertEqual([desk("at t - put 1"), desk.table_of("t")[""]], ["ok", Put("1")])
        self.assertEqual([desk("best t s"), desk.table_of("t")], ["ok", first_best(Setting(Bars("01", "111")))])
        self.assertEqual([desk("bars t 01 : -"), desk.table_of("t"), desk.setting_of("t")],
                         ["ok", None, Setting(Bars("01"))])
        self.assertEqual([desk.names, desk("drop t"), desk.names, len(desk)], [("s", "t", "u"), "ok", ("s", "u"), 10])

    def test_refused_lines_change_nothing(self):
        desk = desk_with(s=ONES, b=BOTH, t=Table({"": PLAIN}))
        before = kept(desk)
        nine = " ".join(["0001", "0010", "0011", "0100", "0101", "0110", "0111", "1000", "1001"])
        code = "code 0 0 1 1"
        for line, answer in ((f"bars s 01 : {nine}", "refused TooMany"), ("start s 0", "refused BadEnd"),
                             (f"setting s 01 : 1 / 01 : {code} ; {code} / 01 : 1 1 / 1 1 / -", "refused BadMenu"),
                             (f"setting n 01 : {nine} / 01 : - / 01 : 1 1 / 1 1 / -", "refused TooMany"),
                             ("start s 111111", "refused BadEnd"), ("start s 9z", "refused BadEnd"),
                             ("best t b", "refused NoWay"), ("best n b", "refused NoWay"),
                             ("at t 00000000 put 0", "refused BadEnd"), ("drop n", "lacks n"), ("start t 1", "lacks t"),
                             ("at s - put 0", "lacks s")):
            self.assertEqual((desk.say(line), kept(desk)), (answer, before))

    def test_names_of_no_thing(self):
        desk = desk_with(s=ONES, t=Table({}))
        for value in others(lambda value: value in ("s", "t")):
            self.assertIsNone(desk.setting_of(value))
            self.assertIsNone(desk.table_of(value))
        self.assertEqual([desk.setting_of("t"), desk.table_of("s"), desk.setting_of("q")], [None] * 3)
        self.assertEqual((desk.setting_of(name="s"), desk.table_of(name="t")), (ONES, Table({})))
        self.assertEqual((Desk().names, len(Desk()), bool(Desk()), bool(desk)), ((), 0, False, True))

    def test_undo_back_to_an_empty_desk(self):
        draw = random.Random(317)
        lines = ["bars {0} 01 : 11", "bars {0} 01 : 00 111", "bars {0} 01 : 00 11", "table {0} table",
                 "table {0} - : code 0 0 1 1", "setting {0} ab : - / ab : - / ab : 1 1 / 1 1 / -", "start {0} 1",
                 "start {0} -", "best {0} {1}", "at {0} 1 put 0", "drop {0}", "show {0}", "rate {0}", "undo", "undo"]
        changing = ("bars", "table", "setting", "start", "best", "at", "drop")
        many = 0
        for _ in range(60):
            desk, states = Desk(), [kept(Desk())]
            for _ in range(40):
                line = draw.choice(lines).format(draw.choice("stu"), draw.choice("stu"))
                answer = desk.say(line)
                if line == "undo":
                    self.assertEqual(answer, "ok" if len(states) > 1 else "nothing")
                    states = states[:-1] if len(states) > 1 else states
                elif answer == "ok" and line.split(" ")[0] in changing:
                    states.append(kept(desk))
                    many += 1
                self.assertEqual(kept(desk), states[-1])
                self.assertEqual(len(desk), len(states) - 1)
            while len(states) > 1:
                self.assertEqual(desk.say("undo"), "ok")
                states.pop()
                self.assertEqual(kept(desk), states[-1])
            self.assertEqual([desk.say("undo"), desk.say("undo"), desk.names, len(desk)], ["nothing", "nothing", (), 0])
        self.assertGreater(many, 500)

    def test_each_changing_line(self):
        for line in ("bars s 01 : 11", "bars n 01 : 11", "setting t 01 : 1 / 01 : - / 01 : 1 1 / 1 1 / -",
                     "table s table", "start s -", "start s 1", "best n s", "best s s", "best t s", "at t 1 put 1",
                     "at t - code 0 0 1 1", "drop s", "drop t"):
            desk = desk_with(s=ONES, t=Table({"": PLAIN}))
            before = kept(desk)
            self.assertEqual((desk.say(line), len(desk)), ("ok", 3))
            self.assertEqual((desk.say("undo"), kept(desk)), ("ok", before))


class RunTest(unittest.TestCase):

    def test_a_wrong_line_among_others(self):
        for at in range(4):
            desk = desk_with(s=ONES)
            before = kept(desk)
            lines = ["best t s", "drop s", "undo", "undo"]
            lines.insert(at, "best t")
            refuses(self, BadLine(2), desk.run, *lines)
            self.assertEqual(kept(desk), before)
            refuses(self, BadLine(2), desk.run, *lines, "rate", None)
            refuses(self, BadLine(0), desk.run, None, *lines)
            self.assertEqual(kept(desk), before)

    def test_answers(self):
        desk = Desk()
        self.assertEqual(desk.run(), [])
        answers = desk.run("undo", "bars s 01 : 11", "show q", "rate s", "undo", "rate s")
        self.assertEqual(answers, ["nothing", "ok", "lacks q", "2", "ok", "lacks s"])
        answers.append("ok")
        self.assertEqual(desk.run("undo"), ["nothing"])
        self.assertEqual([desk.run("bars s 01 : 0 1", "best t s"), len(desk)], [["ok", "refused NoWay"], 1])


if __name__ == "__main__":
    unittest.main()
