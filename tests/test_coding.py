import random
import unittest

from common import others, refuses, same, same_error, values
from flagfree.bars import Bars
from flagfree.coding import Step, coded, decoded, is_coding, paid, steps
from flagfree.errors import BadContent, BadMove, BadRule, BadSent, BadSetting, NoEnd, Refused, Stuck, TooMany
from flagfree.menus import Menu
from flagfree.moves import Code, Put
from flagfree.prices import Prices
from flagfree.rules import By, Late, Rule, Table
from flagfree.settings import Setting
from oracles import is_text, slow_end, texts
from samples import some_settings, some_tables

PLAIN = Code.plain("01")
FIVE = Setting(Bars("01", "111111"))
ONES = Table({"": PLAIN, "1": PLAIN, "11": PLAIN, "111": PLAIN, "1111": PLAIN, "11111": Put("0")})
FREE = Setting(Bars("01"))


def slow_steps(rule, setting, content):
    """What is sent for a content, as tuples, and the end at which the rule is stuck, or None."""
    found, sent, puts, left = [], "", 0, list(content)
    while left:
        end = slow_end(setting.start + sent, setting.bars.words)
        move = rule(sent, setting)
        if move is None or move not in setting.menu:
            return found, end
        sign = None if isinstance(move, Put) else left[0]
        text = move.sign if sign is None else move[sign]
        if slow_end(setting.start + sent + text, setting.bars.words) is None:
            return found, end
        puts = puts + 1 if sign is None else 0
        if puts > 100:
            return found, TooMany
        if sign is not None:
            left.pop(0)
        found.append((move, sign, text, sum(setting.prices.price_of(one) for one in text)))
        sent += text
    return found, None


def row_of(step):
    return step.move, step.sign, step.text, step.price


def asked(moves, rows):
    """A rule that tells these moves in turn, and notes what it is asked."""
    left = list(moves)

    def work(sent, setting):
        rows.append(sent)
        return left.pop(0)

    return By(work)


def puts_then(many, move, put=Put("0")):
    """A rule that tells so many puts ahead of a move, again and again."""
    return asked(([put] * many + [move]) * 20, [])


class CodingTest(unittest.TestCase):

    def check_coding(self, rule, setting, content):
        expected, at = slow_steps(rule, setting, content)
        if at is None:
            found = list(steps(rule, setting, content))
            self.assertTrue(all(type(step) is Step for step in found))
            self.assertTrue(same([row_of(step) for step in found], expected))
            self.assertTrue(same(coded(rule, setting, content), "".join(row[2] for row in expected)))
            self.assertTrue(same(paid(rule, setting, content), sum(row[3] for row in expected)))
            return True
        error = TooMany("puts", 100) if at is TooMany else Stuck(at)
        items = []
        refuses(self, error, lambda: items.extend(row_of(step) for step in steps(rule, setting, content)))
        self.assertTrue(same(items, expected))
        refuses(self, error, coded, rule, setting, content)
        refuses(self, error, paid, rule, setting, content)
        return False

    def test_by_a_plain_search(self):
        draw = random.Random(41)
        right = 0
        for setting in some_settings(120):
            signs = setting.bars.signs
            for rule in some_tables(draw, setting, 2) + [Late()]:
                for content in texts(signs, 3 if len(signs) < 3 else 2) + [signs * 4, signs[-1] * 6]:
                    right += self.check_coding(rule, setting, content)
        self.assertGreater(right, 500)

    def test_prices(self):
        setting = Setting(Bars("01", "11"), None, Prices("01", {"0": 3, "1": 5}, {"0": 7}))
        self.assertTrue(same(paid(Late(), setting, "110"), 5 + 3 + 5 + 3 + 3))
        self.assertTrue(same([step.price for step in steps(Late(), setting, "11")], [5, 3, 5]))
        wide = Setting(Bars("01"), Menu("01", Code({"0": "101", "1": "11"})), setting.prices)
        self.assertEqual([row_of(step)[1:] for step in steps(Late(), wide, "01")], [("0", "101", 13), ("1", "11", 10)])

    def test_the_empty_content(self):
        for rule in (ONES, Late(), Table({}), By(len)):
            self.assertEqual((list(steps(rule, FIVE, "")), coded(rule, FIVE, ""), paid(rule, FIVE, "")), ([], "", 0))

    def test_by_name(self):
        self.assertEqual(coded(content="11", setting=FIVE, rule=ONES), "11")
        self.assertEqual(paid(content="11", setting=FIVE, rule=ONES), 2)
        self.assertEqual([step.text for step in steps(content="11", setting=FIVE, rule=ONES)], ["1", "1"])
        self.assertEqual(decoded(text="11", setting=FIVE, rule=ONES), "11")
        self.assertIs(is_coding(text="11", setting=FIVE, rule=ONES), True)

    def test_start(self):
        setting = FIVE.with_start("1111")
        self.assertEqual(coded(ONES, setting, "111"), "1011")
        self.assertEqual(decoded(ONES, setting, "1011"), "111")
        refuses(self, Stuck("11111"), coded, ONES.with_move("11111", PLAIN), setting, "11")

    def test_errors_in_order(self):
        for work in (steps, coded, paid, decoded, is_coding):
            def call(*told):
                found = work(*told)
                return next(found) if work is steps else found

            for value in others(lambda value: isinstance(value, Rule)):
                refuses(self, BadRule("rule"), call, value, 7, 7)
                refuses(self, BadRule("rule"), call, value, FIVE, "1")
            for value in others(lambda value: isinstance(value, Setting)):
                refuses(self, BadSetting("setting"), call, ONES, value, 7)
                refuses(self, BadSetting("setting"), call, Table({}), value, "1")
            for value in others(lambda value: is_text(value, "01")):
                if work is is_coding:
                    self.assertIs(call(Table({}), FIVE, value), False)
                elif work is decoded:
                    refuses(self, BadSent(value), call, Table({}), FIVE, value)
                else:
                    refuses(self, BadContent(value), call, Table({}), FIVE, value)

    def test_stuck_and_its_cause(self):
        told = [(Table({"": PLAIN}), "11", "1", NoEnd("1")),
                (Table({"": PLAIN, "1": Put("2")}), "11", "1", BadMove("menu")),
                (Table({"": Code({"0": "1", "1": "0"})}), "1", "", BadMove("menu")),
                (Table({"": PLAIN, "1": PLAIN}), "011", "1", None),
                (Table({"": PLAIN, "1": Put("1")}), "10", "1", None),
                (Late(), "1", "", NoEnd(""))]
        pair = Setting(Bars("01", "11"))
        for rule, content, end, cause in told:
            setting = pair if not isinstance(rule, Late) else pair.with_bars(Bars("01", "00", "11"))
            for work in (coded, paid, lambda *more: list(steps(*more))):
                error = refuses(self, Stuck(end), work, rule, setting, content)
                self.assertEqual(type(error.__cause__), type(cause))
                if cause is not None:
                    self.assertTrue(same_error(error.__cause__, cause))

    def test_a_code_need_not_be_fit_for_other_signs(self):
        pair = Setting(Bars("01", "11"))
        self.assertEqual(coded(Table({"": PLAIN, "1": PLAIN}), pair, "1010"), "1010")
        self.assertEqual(decoded(Table({"": PLAIN, "1": PLAIN}), pair, "1010"), "1010")

    def test_most_puts(self):
        self.assertEqual(coded(puts_then(100, PLAIN), FREE, "11"), ("0" * 100 + "1") * 2)
        self.assertEqual(paid(puts_then(100, PLAIN), FREE, "11"), 202)
        for many in (101, 500):
            refuses(self, TooMany("puts", 100), coded, puts_then(many, PLAIN), FREE, "1")
            refuses(self, TooMany("puts", 100), coded, Table({"": Put("1")}), FREE, "1")
        found = steps(puts_then(101, PLAIN), FREE, "1")
        self.assertEqual([next(found).text for _ in range(100)], ["0"] * 100)
        refuses(self, TooMany("puts", 100), next, found)

    def test_most_puts_ahead_of_a_later_sign(self):
        rule = asked([PLAIN] + [Put("0")] * 100 + [PLAIN] + [Put("0")] * 101, [])
        refuses(self, TooMany("puts", 100), coded, rule, FREE, "111")
        rule = asked([PLAIN] + [Put("0")] * 100 + [PLAIN] + [Put("0")] * 100 + [PLAIN], [])
        self.assertEqual(len(coded(rule, FREE, "111")), 203)

    def test_stuck_ahead_of_too_many(self):
        pair = Setting(Bars("01", "11"))
        puts = [Put("0")] * 99 + [Put("1")]
        refuses(self, Stuck("1"), coded, asked(puts + [Put("1")], []), pair, "0")
        self.assertIsInstance(refuses(self, Stuck("1"), coded, asked(puts + [None], []), pair, "0").__cause__, NoEnd)
        error = refuses(self, Stuck("1"), coded, asked(puts + [Put("2")], []), pair, "0")
        self.assertIsInstance(error.__cause__, BadMove)
        refuses(self, BadRule("move"), coded, asked(puts + [7], []), pair, "0")
        refuses(self, TooMany("puts", 100), coded, asked(puts + [Put("0")], []), pair, "0")
        text = "0" * 99 + "1"
        refuses(self, Stuck("1"), decoded, asked(puts + [Put("1")], []), pair, text + "0")
        refuses(self, Stuck("1"), decoded, asked(puts + [None], []), pair, text + "0")
        refuses(self, TooMany("puts", 100), decoded, asked(puts + [Put("0")], []), pair, text + "1")
        refuses(self, TooMany("puts", 100), is_coding, asked(puts + [Put("0")], []), pair, text + "0")

    def test_asked_once_for_each_move(self):
        for work in (coded, paid, lambda *more: list(steps(*more))):
            rows = []
            work(asked([PLAIN, Put("0"), Put("1"), PLAIN, PLAIN, PLAIN], rows), FREE, "110")
            self.assertEqual(rows, ["", "1", "10", "101", "1011"])
        for work in (decoded, is_coding):
            rows = []
            work(asked([PLAIN, Put("0"), Put("1"), PLAIN, PLAIN, PLAIN], rows), FREE, "10110")
            self.assertEqual(rows, ["", "1", "10", "101", "1011"])

    def test_rules_with_memory(self):
        moves = [Put("1"), PLAIN, PLAIN, Put("0"), Put("0"), Code({"0": "10", "1": "0"})]
        setting = Setting(Bars("01"), Menu("01", PLAIN, moves[5], Put("0"), Put("1")))
        self.assertEqual(coded(asked(moves, []), setting, "011"), "101000")
        self.assertEqual(decoded(asked(moves, []), setting, "101000"), "011")
        self.assertEqual(decoded(asked(moves, []), setting, "1010010"), "010")

    def test_what_rules_are_passed(self):
        rows = []

        def work(*told, **more):
            rows.append((told, more))
            return PLAIN

        setting = FIVE.with_start("11")
        coded(By(work), setting, "01")
        decoded(By(work), setting, "01")
        self.assertEqual([(told[0], len(told), told[1] == setting, more) for told, more in rows],
                         [("", 2, True, {}), ("0", 2, True, {})] * 2)

    def test_steps_come_one_by_one(self):
        rows = []
        found = steps(asked([PLAIN, Put("0"), None], rows), FREE, "111")
        self.assertEqual(row_of(next(found)), (PLAIN, "1", "1", 1))
        self.assertEqual(rows, [""])
        self.assertEqual(row_of(next(found)), (Put("0"), None, "0", 1))
        refuses(self, Stuck(""), next, found)
        self.assertEqual(rows, ["", "1", "10"])

    def test_errors_of_rules_go_on(self):
        for error in (Refused(3), BadSent("1"), Stuck("1"), BadContent("1"), KeyError("x"), ZeroDivisionError()):
            def work(sent, setting):
                raise error

            for call in (coded, paid, decoded, is_coding, lambda *more: list(steps(*more))):
                with self.assertRaises(type(error)) as caught:
                    call(By(work), FREE, "1")
                self.assertIs(caught.exception, error)
        for value in others(lambda value: value is None or isinstance(value, (Put, Code))):
            for call in (coded, paid, decoded, is_coding):
                refuses(self, BadRule("move"), call, By(lambda sent, setting: value), FREE, "1")

    def test_joined_rules(self):
        rule = Table({"1": Put("0")}) | Late()
        self.assertEqual(coded(rule, FIVE, "110"), "10100")
        self.assertEqual(decoded(rule, FIVE, "10100"), "110")

    def test_long_contents(self):
        content = "1" * 5000 + "0"
        text = coded(ONES, FIVE, content)
        self.assertEqual(len(text), 6001)
        self.assertEqual(text, coded(Late(), FIVE, content))
        self.assertEqual((decoded(Late(), FIVE, text), paid(ONES, FIVE, content)), (content, 6001))
        self.assertEqual(decoded(By(lambda sent, setting: PLAIN), FREE, content), content)


class ManyPutsTest(unittest.TestCase):
    """Tables that put in signs up to the 101st, asked again and again."""

    SETTING = Setting(Bars("01", "00", "11"))
    TABLE = Table({"": Put("0"), "0": Put("1"), "1": Put("0")})

    def first_steps(self, rule, setting, content):
        """The steps ahead of the error that is raised, and this error."""
        rows = []
        try:
            for step in steps(rule, setting, content):
                rows.append(row_of(step))
        except TooMany as error:
            return rows, error
        return self.fail("TooMany expected")

    def test_asked_2000_times(self):
        expected, at = slow_steps(self.TABLE, self.SETTING, "0")
        self.assertTrue(at is TooMany and len(expected) == 100)
        for _ in range(2000):
            rows, error = self.first_steps(self.TABLE, self.SETTING, "0")
            self.assertEqual(rows, expected)
            self.assertTrue(same_error(error, TooMany("puts", 100)))
            refuses(self, TooMany("puts", 100), coded, self.TABLE, self.SETTING, "0")
            refuses(self, TooMany("puts", 100), paid, self.TABLE, self.SETTING, "0")
            refuses(self, Refused(81), decoded, self.TABLE, self.SETTING, "01" * 40 + "0")
            self.assertIs(is_coding(self.TABLE, self.SETTING, "01" * 40 + "0"), False)

    def test_many_tables_by_a_plain_search(self):
        draw = random.Random(47)
        many = 0
        for setting in some_settings(150):
            for table in some_tables(draw, setting, 3):
                for content in texts(setting.bars.signs, 1):
                    expected, at = slow_steps(table, setting, content)
                    if at is TooMany:
                        rows, _ = self.first_steps(table, setting, content)
                        self.assertTrue(same(rows, expected))
                        many += 1
        self.assertGreater(many, 20)

    def test_puts_that_are_equal_to_those_of_the_menu(self):
        menu = Menu("01", Code({"0": "0", "1": "1"}), Put("1"), Put("0"))
        setting = self.SETTING.with_menu(menu)
        self.assertEqual(self.first_steps(self.TABLE, setting, "0")[0], slow_steps(self.TABLE, setting, "0")[0])
        error = refuses(self, Stuck(""), coded, self.TABLE, setting.with_menu(Menu("01", Put("1"))), "0")
        self.assertTrue(same_error(error.__cause__, BadMove("menu")))
        error = refuses(self, Stuck("0"), coded, self.TABLE, setting.with_menu(Menu("01", Put("0"))), "0")
        self.assertTrue(same_error(error.__cause__, BadMove("menu")))

    def test_long_contents(self):
        pair = Setting(Bars("01", "11"))
        table = Table({"": PLAIN, "1": Put("0")})
        rows = []

        def work(sent, setting):
            rows.append(sent)
            return Put("0") if sent.endswith("1") else PLAIN

        content = "1" * 700 + "01" * 300
        text = coded(table, pair, content)
        self.assertEqual(coded(By(work), pair, content), text)
        self.assertEqual((decoded(table, pair, text), decoded(By(work), pair, text)), (content, content))
        self.assertEqual(rows, [text[:k] for k in range(len(text))] * 2)


class DecodedTest(unittest.TestCase):

    def check_text(self, rule, setting, text, contents, begins):
        if text in contents:
            self.assertTrue(same(decoded(rule, setting, text), contents[text]))
            self.assertIs(is_coding(rule, setting, text), True)
            return
        at = [k for k in range(len(text)) if text[:k + 1] not in begins]
        refuses(self, Refused(at[0] if at else len(text)), decoded, rule, setting, text)
        self.assertIs(is_coding(rule, setting, text), False)

    def check_rule(self, rule, setting, most):
        """Look at all texts of at most so many signs, for a rule that sends all contents."""
        rows = {content: coded(rule, setting, content) for content in texts(setting.bars.signs, most + 1)}
        contents = {text: content for content, text in rows.items()}
        self.assertEqual(len(contents), len(rows))
        begins = {text[:k] for text in contents for k in range(len(text) + 1)}
        for text in texts(setting.bars.signs, most):
            self.check_text(rule, setting, text, contents, begins)
        for text in contents:
            self.check_text(rule, setting, text, contents, begins)

    def test_by_a_plain_search(self):
        draw = random.Random(43)
        many = 0
        for setting in some_settings(200):
            signs = setting.bars.signs
            rules = [rule for rule in some_tables(draw, setting, 3) if sends_all(rule, setting)]
            if Late()("", setting) is not None:
                rules.append(Late())
            for rule in rules:
                self.check_rule(rule, setting, 5 if len(signs) < 3 else 3)
                many += 1
        self.assertGreater(many, 100)

    def test_refused_by_hand(self):
        for text, at in (("111110", 6), ("1111111", 5), ("11111011111", None), ("111110111110", 12), ("0111111", 6)):
            if at is None:
                self.assertEqual(decoded(ONES, FIVE, text), "1111111111")
            else:
                refuses(self, Refused(at), decoded, ONES, FIVE, text)
        self.assertEqual(decoded(ONES, FIVE, ""), "")

    def test_refused_amid_a_word(self):
        setting = Setting(Bars("012", "22"), Menu("012", Code({"0": "0", "1": "120", "2": "101"}), Put("0")))
        for text, at in (("1", 1), ("12", 2), ("122", 2), ("121", 2), ("11", 1), ("2", 0), ("02", 1), ("0100", 3),
                         ("010", 3)):
            refuses(self, Refused(at), decoded, Late(), setting, text)
            self.assertIs(is_coding(Late(), setting, text), False)
        self.assertEqual(decoded(Late(), setting, "0120101"), "012")

    def test_words_that_complete_a_barred_word(self):
        setting = Setting(Bars("01", "11"), Menu("01", PLAIN, Code({"0": "01", "1": "110"}), Put("0")))
        table = Table({"": setting.menu.moves[1], "1": PLAIN})
        for text, at in (("1", 0), ("110", 0), ("011", 2), ("0", 1), ("00", 1)):
            refuses(self, Refused(at), decoded, table, setting, text)
        self.assertEqual(decoded(table, setting, "010"), "00")
        refuses(self, Stuck(""), coded, table, setting, "1")
        none = Setting(Bars("01", "0", "1"))
        refuses(self, Refused(0), decoded, Table({"": PLAIN}), none, "0")
        self.assertIs(is_coding(Table({"": PLAIN}), none, "1"), False)
        self.assertIs(is_coding(Table({"": PLAIN}), none, ""), True)

    def test_stuck_ahead_of_refused(self):
        pair = Setting(Bars("01", "11"))
        error = refuses(self, Stuck("1"), decoded, Table({"": PLAIN, "1": Put("1")}), pair, "10")
        self.assertIsNone(error.__cause__)
        error = refuses(self, Stuck("1"), is_coding, Table({"": PLAIN, "1": Put("1")}), pair, "11")
        self.assertIsNone(error.__cause__)
        error = refuses(self, Stuck("1"), decoded, Table({"": PLAIN}), pair, "10")
        self.assertEqual((type(error.__cause__), error.__cause__.end), (NoEnd, "1"))
        error = refuses(self, Stuck("1"), is_coding, Table({"": PLAIN, "1": Put("2")}), pair, "10")
        self.assertEqual((type(error.__cause__), error.__cause__.part), (BadMove, "menu"))

    def test_asked_only_as_long_as_more_is_left(self):
        for text in ("", "1", "10"):
            rows = []
            self.assertEqual(decoded(asked([PLAIN] * 9, rows), FREE, text), text)
            self.assertEqual(rows, [text[:k] for k in range(len(text))])
        rows = []
        refuses(self, Refused(2), decoded, asked([PLAIN, Put("0"), None], rows), FREE, "10")
        self.assertEqual(rows, ["", "1"])
        self.assertEqual(decoded(Table({"": PLAIN}), Setting(Bars("01", "11")), "01"), "01")
        self.assertIs(is_coding(Table({}), FIVE, ""), True)

    def test_most_puts(self):
        text = ("0" * 100 + "1") * 3
        self.assertEqual(decoded(puts_then(100, PLAIN), FREE, text), "111")
        refuses(self, TooMany("puts", 100), decoded, puts_then(101, PLAIN), FREE, "0" * 101 + "1")
        refuses(self, TooMany("puts", 100), decoded, puts_then(101, PLAIN), FREE, "0" * 100 + "1")
        refuses(self, TooMany("puts", 100), is_coding, puts_then(101, PLAIN), FREE, "0" * 101)
        refuses(self, Refused(100), decoded, puts_then(101, PLAIN), FREE, "0" * 100)
        refuses(self, Refused(99), decoded, puts_then(101, PLAIN), FREE, "0" * 99 + "1")

    def test_texts_that_are_barred(self):
        refuses(self, Refused(5), decoded, Late(), FIVE, "111111")
        self.assertIs(is_coding(Late(), FIVE, "111111"), False)


def sends_all(table, setting):
    """Whether a table sends all contents."""
    try:
        ends = table.reached(setting)
    except Stuck:
        return False
    for end in ends:
        for _ in ends:
            if isinstance(table[end], Put):
                end = setting.outcomes(end, table[end])[0][2]
        if isinstance(table[end], Put):
            return False
    return True


class StepTest(unittest.TestCase):

    def test_values(self):
        for value in values():
            rows = [Step(value, 1, 2, 3), Step(1, value, 2, 3), Step(1, 2, value, 3), Step(1, 2, 3, value)]
            for k, step in enumerate(rows):
                self.assertTrue(same(row_of(step)[k], value))
                self.assertIs(bool(step), True)
                self.assertIs(step == Step(*row_of(step)), True)
        step = Step(price=4, text="1", sign=None, move=PLAIN)
        self.assertEqual(row_of(step), (PLAIN, None, "1", 4))

    def test_equality(self):
        step = Step(Put("0"), None, "0", 1)
        self.assertEqual(step, Step(Put("0"), None, "0", 1))
        self.assertEqual(step, Step(Put("0"), None, "0", True))
        for other in (Step(Put("1"), None, "0", 1), Step(Put("0"), "0", "0", 1), Step(Put("0"), None, "1", 1),
                      Step(Put("0"), None, "0", 2)):
            self.assertNotEqual(step, other)
        for value in values():
            self.assertIs(Step(1, 2, 3, 4) == value, False)


if __name__ == "__main__":
    unittest.main()
