import itertools
import random
import unittest
from fractions import Fraction

from common import check_paper, is_integer, others, refuses, same, same_error, values
from flagfree.bars import Bars
from flagfree.coding import coded, paid
from flagfree.errors import BadMove, BadNumber, BadRule, BadSent, BadSetting, FlagError, NoEnd, Stuck
from flagfree.foe import Caught, Foe, Game, shows_game
from flagfree.least import Least, least
from flagfree.menus import Menu
from flagfree.moves import Code, Put
from flagfree.prices import Prices, Rate
from flagfree.rules import By, Late, Rule, Table
from flagfree.settings import Setting
from flagfree.traps import Trap
from oracles import is_text, outcomes, slow_end, slow_rounds, texts
from samples import mixed_settings, open_settings, some_settings, some_tables

PLAIN = Code.plain("01")
PAIR = Setting(Bars("01", "11"))
BOTH = Setting(Bars("01", "00", "11"))
FREE = Setting(Bars("01"))


def slow_sign(foe, end, code, lost):
    """The sign that a foe tells at an end, by its definition."""
    told = sorted(outcomes(foe.setting, end, code))
    for sign, _, _, behind in told:
        if behind is None:
            return sign
    losing = sorted((lost[behind], sign) for sign, _, _, behind in told if behind in lost)
    if losing:
        return losing[0][1]
    if foe.found and end in foe.found.against:
        p, q, numbers = foe.found.rate.price, foe.found.rate.weight, foe.found.against
        for sign, price, weight, behind in told:
            if behind in numbers and numbers[end] <= q * price - p * weight + numbers[behind]:
                return sign
    return told[0][0]


def slow_walk(foe, rule):
    """The rows (content, text, price) of a walk, then what it ends with: a why, or an error."""
    setting, lost = foe.setting, slow_rounds(foe.setting)
    content, sent, price, puts, end = "", "", 0, 0, foe.setting.start
    while True:
        try:
            move = rule(sent, setting)
        except FlagError as error:
            yield error
            return
        if move is None or move not in list(setting.menu):
            yield Stuck(end)
            return
        if isinstance(move, Put):
            text, puts = move.sign, puts + 1
        else:
            sign = slow_sign(foe, end, move, lost)
            content, text, puts = content + sign, move[sign], 0
        sent += text
        price += sum(setting.prices.price_of(one) for one in text)
        end = slow_end(end + text, setting.bars.words)
        if end is None or puts > 100:
            yield Caught(content, sent, "word" if end is None else "puts")
            return
        if puts == 0:
            yield content, sent, price


def some_rules(draw, setting):
    """Rules of all kinds for a setting."""
    moves = list(setting.menu)
    rows = some_tables(draw, setting, 3) + [Late(), Late() | Late(), Table({}), Table({"": moves[0]} if moves else {})]
    rows.extend([table | Late() for table in rows[:1]])
    if moves:
        rows.append(By(lambda sent, setting: moves[(7 * len(sent) + sent.count(setting.bars.signs[0])) % len(moves)]))
        rows.append(By(lambda sent, setting: moves[0] if len(sent) < 6 else None))
        rows.append(By(lambda sent, setting: moves[-1]))
        rows.append(By(lambda sent, setting: fit_move(setting, sent)))
    return rows


def fit_move(setting, sent):
    """A move that is fit, which hangs on how much was sent; None where there is none."""
    fit = setting.let(setting.bars.behind(setting.start, sent))
    return fit[len(sent) // 3 % len(fit)] if fit else None


def fresh(moves):
    """A rule with a memory: it tells these moves in turn, the last one for ever."""
    left = list(moves)
    return By(lambda sent, setting: left.pop(0) if len(left) > 1 else left[0])


class NextSignTest(unittest.TestCase):

    def test_by_the_definition(self):
        draw = random.Random(131)
        told = {}
        for setting in some_settings(80) + mixed_settings(80):
            foe, lost = Foe(setting), slow_rounds(setting)
            for sent in draw.sample(texts(setting.bars.signs, 4), 12):
                end = slow_end(setting.start + sent, setting.bars.words)
                for move in setting.menu:
                    if end is None:
                        refuses(self, BadSent(sent), foe.next_sign, sent, move)
                        continue
                    expected = None if isinstance(move, Put) else slow_sign(foe, end, move, lost)
                    self.assertTrue(same(foe.next_sign(sent, move), expected))
                    told[expected] = told.get(expected, 0) + 1
        self.assertGreater(min(told[None], told["0"], told["1"], told["2"]), 20)

    def test_by_hand(self):
        foe = Foe(PAIR)
        self.assertEqual([foe.next_sign("", PLAIN), foe.next_sign("1", PLAIN), foe.next_sign("10", PLAIN)], ["1"] * 3)
        self.assertIsNone(foe.next_sign("1", Put("0")))
        self.assertIsNone(foe.next_sign(move=Put("1"), sent="1"))

    def test_words_that_are_completed_come_first(self):
        setting = Setting(Bars("012", "110", "12", "111"), None, None, "1")
        self.assertEqual(slow_rounds(setting), {"11": 1})
        self.assertEqual(Foe(setting).next_sign("", Code.plain("012")), "2")
        self.assertEqual(Foe(setting.with_start("")).next_sign("1", Code.plain("012")), "2")

    def test_the_least_round_comes_first(self):
        setting = Setting(Bars("01", "001", "11", "000"), Menu("01", PLAIN))
        self.assertEqual(slow_rounds(setting), {"": 2, "0": 2, "00": 1, "1": 1})
        foe = Foe(setting)
        self.assertEqual([foe.next_sign(sent, PLAIN) for sent in ("", "0", "1", "00")], ["1", "0", "1", "0"])
        late = Foe(Setting(Bars("01", "110", "111")))
        self.assertEqual(late.next_sign("1", PLAIN), "1")

    def test_ends_of_a_lesser_rate_have_no_number(self):
        setting = Setting.read("012 : 011 02 / 012 : code 0 21 1 122 2 22 ; code 0 200 1 212 2 0 ; put 0 ; put 1 / "
                               "012 : 1 1 1 / 1 1 1 / 0")
        foe = Foe(setting)
        self.assertEqual((str(foe.found.rate), sorted(foe.found.against)), ("4", ["0", "01"]))
        for code in setting.menu.codes:
            self.assertEqual([foe.next_sign(sent, code) for sent in ("12", "1222", "1221")], ["0", "0", "0"])
        self.assertEqual(foe.next_sign("1", setting.menu.codes[0]), slow_sign(foe, "01", setting.menu.codes[0], {}))

    def test_ends_without_a_number(self):
        for setting in open_settings(mixed_settings(120)):
            foe, lost = Foe(setting), slow_rounds(setting)
            for end in setting.bars.ends:
                if end in lost or end in foe.found.against or not end.startswith(setting.start):
                    continue
                for code in setting.menu.codes:
                    behind = [row[3] for row in outcomes(setting, end, code)]
                    if None not in behind and not any(one in lost for one in behind):
                        self.assertEqual(foe.next_sign(end[len(setting.start):], code), setting.bars.signs[0])

    def test_errors_in_order(self):
        foe = Foe(PAIR)
        for value in others(lambda value: is_text(value, "01") and slow_end(value, ("11",)) is not None):
            refuses(self, BadSent(value), foe.next_sign, value, None)
            refuses(self, BadSent(value), foe.next_sign, value, PLAIN)
        refuses(self, BadSent("1"), Foe(PAIR.with_start("1")).next_sign, "1", PLAIN)
        for value in others(lambda value: value in list(PAIR.menu)) + [Put("2"), Code({"0": "1", "1": "0"})]:
            refuses(self, BadMove("menu"), foe.next_sign, "1", value)


class PlayTest(unittest.TestCase):

    def check_play(self, foe, rule, weight):
        """Hold what a foe plays against a plain one; returns a word for what came out."""
        expected = None
        for row in slow_walk(foe, rule):
            if not isinstance(row, tuple):
                expected = row
                break
            if foe.setting.prices.weigh(row[0]) >= weight:
                expected = Game(*row)
                break
        if isinstance(expected, FlagError):
            refuses(self, expected, foe.play, rule, weight)
            return "error"
        found = foe.play(rule, weight)
        self.assertEqual(found, expected)
        self.assertTrue(same(vars(found), vars(expected)))
        self.assertIs(shows_game(foe.setting, rule, found), True)
        if isinstance(found, Game):
            self.check_floor(foe, rule, found)
            return "game"
        return found.why

    def check_floor(self, foe, rule, game):
        setting = foe.setting
        end = slow_end(setting.start + game.sent, setting.bars.words)
        if end in slow_rounds(setting):
            return
        weight = setting.prices.weigh(game.content)
        self.assertGreaterEqual(game.price, foe.floor(weight))
        self.assertEqual(coded(rule, setting, game.content), game.sent)
        self.assertEqual(paid(rule, setting, game.content), game.price)

    def test_by_the_definition(self):
        draw = random.Random(137)
        told = {}
        for setting in some_settings(100) + mixed_settings(100):
            foe = Foe(setting)
            for rule in some_rules(draw, setting):
                for weight in (1, 5, draw.randint(6, 30)):
                    word = self.check_play(foe, rule, weight)
                    told[word] = told.get(word, 0) + 1
        self.assertGreater(min(told[word] for word in ("error", "game", "word", "puts")), 100)

    def test_best_rules_pay_no_more_in_the_long_run(self):
        for setting in open_settings(mixed_settings(60)):
            foe = Foe(setting)
            game = foe.play(foe.found.table, 1000)
            weight = setting.prices.weigh(game.content)
            self.assertGreaterEqual(weight, 1000)
            self.assertGreaterEqual(game.price, foe.floor(weight))
            most = foe.found.rate.price * weight + foe.found.numbers[setting.start]
            self.assertLessEqual(game.price * foe.found.rate.weight, most)

    def test_by_hand(self):
        foe = Foe(PAIR)
        self.assertEqual(foe.play(Late(), 3), Game("111", "10101", 5))
        self.assertEqual(foe.play(weight=1, rule=Late()), Game("1", "1", 1))
        rash = By(lambda sent, setting: PLAIN)
        self.assertTrue(same(vars(foe.play(rash, 9)), {"content": "11", "sent": "11", "why": "word"}))
        self.assertEqual(foe.play(rash, 1), Game("1", "1", 1))
        heavy = Foe(PAIR.with_prices(Prices("01", {"1": 5}, {"0": 3, "1": 4})))
        self.assertEqual([heavy.play(Late(), weight).content for weight in (4, 5, 8, 9)], ["1", "11", "11", "111"])
        self.assertEqual(heavy.play(Late(), 9).price, 17)

    def test_caught_by_puts(self):
        foe = Foe(FREE)
        for many in (99, 100):
            self.assertEqual(foe.play(fresh([Put("0")] * many + [PLAIN]), 1), Game("0", "0" * (many + 1), many + 1))
        for many in (101, 300):
            self.assertEqual(foe.play(fresh([Put("0")] * many + [PLAIN]), 1), Caught("", "0" * 101, "puts"))
        found = foe.play(fresh([PLAIN] + [Put("1")] * 100 + [PLAIN] + [Put("1")] * 101 + [PLAIN]), 3)
        self.assertEqual(found, Caught("00", "0" + "1" * 100 + "0" + "1" * 101, "puts"))

    def test_caught_by_both(self):
        foe = Foe(PAIR)
        found = foe.play(fresh([Put("0")] * 99 + [Put("1"), Put("1"), PLAIN]), 5)
        self.assertEqual(found, Caught("", "0" * 99 + "11", "word"))
        found = foe.play(fresh([Put("0")] * 100 + [Put("1"), PLAIN]), 5)
        self.assertEqual(found, Caught("", "0" * 100 + "1", "puts"))
        found = foe.play(fresh([Put("1"), Put("1"), PLAIN]), 5)
        self.assertEqual(found, Caught("", "11", "word"))

    def test_lost_starts(self):
        foe = Foe(BOTH)
        found = foe.play(Table({"": PLAIN, "0": Put("1"), "1": Put("0")}), 5)
        self.assertEqual(found, Caught("0", "0" + "10" * 50 + "1", "puts"))
        self.assertEqual(foe.play(Table({"": PLAIN, "0": PLAIN, "1": PLAIN}), 5), Caught("00", "00", "word"))
        refuses(self, Stuck(""), foe.play, Late(), 5)
        self.assertEqual(foe.play(Table({"": PLAIN}), 1), Game("0", "0", 1))

    def test_rules_are_asked_once_for_each_move(self):
        rows = []

        def work(sent, setting):
            rows.append(sent)
            return Put("0") if sent.endswith("1") else PLAIN

        self.assertEqual(Foe(PAIR).play(By(work), 2), Game("11", "101", 3))
        self.assertEqual(rows, ["", "1", "10"])

    def test_errors_in_order(self):
        foe = Foe(PAIR)
        for value in others(lambda value: isinstance(value, Rule)):
            refuses(self, BadRule("rule"), foe.play, value, 0)
            refuses(self, BadRule("rule"), lambda: next(foe.walk(value)))
            refuses(self, BadSetting("setting"), shows_game, 7, value, None)
            refuses(self, BadRule("rule"), shows_game, PAIR, value, None)
        for value in others(lambda value: is_integer(value) and 1 <= value <= 1000) + [1001, 0]:
            refuses(self, BadNumber(value), foe.play, Table({}), value)
            refuses(self, BadNumber(value), foe.play, Late(), value)
        for value in others(lambda value: isinstance(value, Setting)):
            refuses(self, BadSetting("setting"), Foe, value)
            refuses(self, BadSetting("setting"), shows_game, value, 7, 7)
        self.assertEqual(foe.play(Late(), 1000).content, "1" * 1000)

    def test_errors_of_rules(self):
        foe = Foe(PAIR)
        for rule, error, cause in ((Table({}), Stuck(""), NoEnd("")),
                                   (Table({"": Put("2")}), Stuck(""), BadMove("menu")),
                                   (Table({"": PLAIN}), Stuck("1"), NoEnd("1")),
                                   (By(lambda sent, setting: 7), BadRule("move"), None),
                                   (fresh([PLAIN, Put("z")]), Stuck("1"), BadMove("menu"))):
            found = refuses(self, error, foe.play, rule, 9)
            self.assertIs(type(found.__cause__), type(cause))
            self.assertTrue(cause is None or same_error(found.__cause__, cause))
        for error in (Stuck("1"), KeyError("x"), BadNumber(3)):
            def work(sent, setting):
                raise error

            with self.assertRaises(type(error)) as caught:
                foe.play(By(work), 3)
            self.assertIs(caught.exception, error)


class WalkTest(unittest.TestCase):

    def test_by_the_definition(self):
        draw = random.Random(139)
        many = 0
        for setting in some_settings(60) + mixed_settings(60):
            foe = Foe(setting)
            for rule in some_rules(draw, setting):
                expected = list(itertools.islice(slow_walk(foe, rule), 12))
                found = foe.walk(rule)
                for row in expected:
                    if isinstance(row, tuple):
                        self.assertTrue(same(next(found), row))
                        many += 1
                    elif isinstance(row, FlagError):
                        refuses(self, row, next, found)
                    else:
                        self.assertIsNone(next(found, None))
        self.assertGreater(many, 1000)

    def test_by_hand(self):
        foe = Foe(PAIR)
        self.assertEqual(list(itertools.islice(foe.walk(Late()), 3)),
                         [("1", "1", 1), ("11", "101", 3), ("111", "10101", 5)])
        self.assertEqual(list(foe.walk(By(lambda sent, setting: PLAIN))), [("1", "1", 1)])
        self.assertEqual(list(Foe(FREE).walk(fresh([Put("0")]))), [])
        self.assertEqual(list(Foe(BOTH).walk(Table({"": PLAIN, "0": Put("1"), "1": Put("0")}))), [("0", "0", 1)])

    def test_as_long_as_it_is_asked(self):
        rows = []

        def work(sent, setting):
            rows.append(sent)
            return Put("0") if sent.endswith("1") else PLAIN

        found = Foe(PAIR).walk(By(work))
        self.assertEqual(rows, [])
        self.assertEqual(next(found), ("1", "1", 1))
        self.assertEqual(rows, [""])
        for _ in range(2000):
            row = next(found)
        self.assertEqual((len(row[0]), row[2]), (2001, 4001))

    def test_errors_at_their_items(self):
        found = Foe(PAIR).walk(fresh([PLAIN, Put("0"), PLAIN, Put("0"), Put("2")]))
        self.assertEqual([next(found)[0], next(found)[0]], ["1", "11"])
        refuses(self, Stuck(""), next, found)
        found = Foe(PAIR).walk(By(lambda sent, setting: PLAIN if sent == "" else 7))
        self.assertEqual(next(found), ("1", "1", 1))
        refuses(self, BadRule("move"), next, found)


class FloorTest(unittest.TestCase):

    def test_by_the_numbers(self):
        for setting in open_settings(mixed_settings(100)):
            foe = Foe(setting)
            rate, greatest = foe.found.rate, max(foe.found.against.values())
            for weight in (0, 1, 2, 3, 10, 99, 10 ** 29):
                least_price = Fraction(rate.price * weight - greatest, rate.weight)
                self.assertTrue(same(foe.floor(weight), max(0, -(-least_price.numerator // least_price.denominator))))

    def test_by_hand(self):
        foe = Foe(Setting(Bars("01")))
        self.assertTrue(same([foe.floor(weight) for weight in (0, 1, 2, 10 ** 29)], [0, 1, 2, 10 ** 29]))
        self.assertTrue(same(foe.floor(weight=True + 1), 2))
        pair = Foe(PAIR)
        self.assertEqual(pair.floor(10 ** 20), 2 * 10 ** 20 - max(pair.found.against.values()))
        self.assertEqual(pair.floor(0), 0)

    def test_lost_starts(self):
        for weight in (0, 1, 1000):
            self.assertIsNone(Foe(BOTH).floor(weight))

    def test_errors(self):
        for value in others(lambda value: is_integer(value) and value >= 0):
            for setting in (PAIR, BOTH):
                refuses(self, BadNumber(value), Foe(setting).floor, value)


class FoeTest(unittest.TestCase):

    def test_attributes(self):
        for setting in some_settings(60) + mixed_settings(40):
            foe = Foe(setting)
            self.assertTrue(foe.setting == setting and foe.found == least(setting))
            self.assertIn(type(foe.found), (Least, Trap))
        self.assertEqual(str(Foe(setting=PAIR).found.rate), "2")
        self.assertEqual(Foe(BOTH).found, Trap({"": 2, "0": 1, "1": 1}))

    def test_papers(self):
        check_paper(self, Game, ("content", "sent", "price"))
        check_paper(self, Caught, ("content", "sent", "why"), False)
        self.assertNotEqual(Game("", "", 0), Caught("", "", 0))
        for value in values():
            self.assertIs(Game("1", "1", 7) == value, False)
            self.assertIs(Caught("1", "1", 7) == value, False)


class ShowsGameTest(unittest.TestCase):

    def slow_shows(self, setting, rule, value):
        """Whether a value is a game of a rule, by the definition, for rules that look at what was sent alone."""
        if type(value) not in (Game, Caught) or not is_text(value.content, setting.bars.signs):
            return False
        left, content, sent, price, puts, end = value.content, "", "", 0, 0, setting.start
        while left or type(value) is Caught:
            move = rule(sent, setting)
            if move is None or move not in list(setting.menu):
                return Stuck(end)
            if isinstance(move, Put):
                text, puts = move.sign, puts + 1
            elif not left:
                return False
            else:
                content, text, left, puts = content + left[0], move[left[0]], left[1:], 0
            sent += text
            price += sum(setting.prices.price_of(one) for one in text)
            end = slow_end(end + text, setting.bars.words)
            why = "word" if end is None else "puts" if puts > 100 else None
            if why is not None:
                return (type(value) is Caught and left == "" and type(value.sent) is str and value.sent == sent
                        and value.why == why)
        return value.sent == sent and type(value.price) is int and value.price == price

    def near_games(self, draw, setting, found):
        """Games near to one."""
        last = found.price if isinstance(found, Game) else found.why
        rows = [Game(found.content, found.sent, last), Caught(found.content, found.sent, last)]
        sign = draw.choice(setting.bars.signs)
        for content in (found.content, found.content[:-1], found.content + sign, sign + found.content[1:]):
            for sent in (found.sent, found.sent[:-1], found.sent + sign, sign + found.sent[1:], None):
                rows.append(Caught(content, sent, draw.choice(["word", "puts"])))
                rows.append(Game(content, sent, last))
        for other in ("word", "puts", None, 0, True, "", len(found.sent)):
            rows.append(Caught(found.content, found.sent, other))
            rows.append(Game(found.content, found.sent, other))
        for n in range(len(found.content)):
            rows.append(Game(found.content[:n], found.sent[:n], n))
        return rows

    def test_by_the_definition(self):
        draw = random.Random(149)
        told = {}
        for setting in some_settings(60) + mixed_settings(60):
            foe = Foe(setting)
            for rule in some_rules(draw, setting):
                try:
                    found = foe.play(rule, draw.choice([1, 3, 9]))
                except FlagError:
                    found = Game(setting.bars.signs, "", 0)
                rows = self.near_games(draw, setting, found)
                for value in rows[:2] + draw.sample(rows, 12):
                    right = self.slow_shows(setting, rule, value)
                    if isinstance(right, FlagError):
                        refuses(self, right, shows_game, setting, rule, value)
                    else:
                        self.assertIs(shows_game(setting, rule, value), right, (str(setting), str(rule), vars(value)))
                    told[str(type(right)) + str(right is True)] = told.get(str(type(right)) + str(right is True), 0) + 1
        self.assertGreater(min(told.values()), 200)

    def test_by_hand(self):
        rash = By(lambda sent, setting: PLAIN)
        for value, right in ((Caught("11", "11", "word"), True), (Caught("11", "11", "puts"), False),
                             (Caught("11", "1", "word"), False), (Caught("1", "1", "word"), False),
                             (Caught("110", "110", "word"), False), (Caught("0011", "0011", "word"), True),
                             (Game("10", "10", 2), True), (Game("11", "11", 2), False), (Game("10", "10", 3), False),
                             (Game("", "", 0), True), (Game("", "", False), False), (Game("", None, 0), False),
                             (Game("1", "1", True), False), (Caught("", "", "word"), False),
                             (Game("12", "12", 2), False)):
            self.assertIs(shows_game(PAIR, rash, value), right)
        puts = By(lambda sent, setting: Put("0"))
        for value, right in ((Caught("", "0" * 101, "puts"), True), (Caught("", "0" * 100, "puts"), False),
                             (Caught("", "0" * 102, "puts"), False), (Caught("0", "0" * 101, "puts"), False),
                             (Game("", "", 0), True), (Game("0", "0" * 102, 102), False)):
            self.assertIs(shows_game(FREE, puts, value), right)

    def test_puts_in_a_row(self):
        for many in (100, 101):
            rule = By(lambda sent, setting: Put("0") if sent.count("0") < many else PLAIN)
            self.assertIs(shows_game(FREE, rule, Game("1", "0" * many + "1", many + 1)), many == 100)
            self.assertIs(shows_game(FREE, rule, Caught("", "0" * 101, "puts")), many == 101)

    def test_both_at_once(self):
        def rule():
            return fresh([Put("0")] * 99 + [Put("1"), Put("1"), PLAIN])

        self.assertIs(shows_game(PAIR, rule(), Caught("", "0" * 99 + "11", "word")), True)
        self.assertIs(shows_game(PAIR, rule(), Caught("", "0" * 99 + "11", "puts")), False)

    def test_errors_of_rules(self):
        for value in (Game("1", None, None), Game("1", "1", 1), Caught("1", 7, 7), Caught("", "", "word")):
            refuses(self, Stuck(""), shows_game, PAIR, Table({}), value)
            refuses(self, Stuck(""), shows_game, PAIR, Table({"": Put("2")}), value)
            refuses(self, BadRule("move"), shows_game, PAIR, By(lambda sent, setting: 7), value)
        refuses(self, Stuck("1"), shows_game, PAIR, Table({"": PLAIN}), Caught("1", "1", "word"))
        self.assertIs(shows_game(PAIR, Table({"": PLAIN}), Game("1", "1", 1)), True)
        for value in (Game("2", "", 0), Game(None, "", 0), Caught("2", "", "word"), Game("", "", 0),
                      Game("", "1", 0), None):
            self.assertIs(shows_game(PAIR, Table({}), value), value == Game("", "", 0))

    def test_asked_once_for_each_move(self):
        rows = []

        def work(sent, setting):
            rows.append(sent)
            return Put("0") if sent.endswith("1") else PLAIN

        self.assertIs(shows_game(PAIR, By(work), Game("11", "101", 3)), True)
        self.assertEqual(rows, ["", "1", "10"])
        rows.clear()
        self.assertIs(shows_game(PAIR, By(work), Caught("11", "101", "word")), False)
        self.assertEqual(rows, ["", "1", "10", "101", "1010"])

    def test_values(self):
        for value in values():
            self.assertIs(shows_game(PAIR, Late(), value), value == Game("", "", 0) and isinstance(value, Game))
            self.assertIs(shows_game(PAIR, Late(), Game(value, "101", 3)), value == "11")
            self.assertIs(shows_game(PAIR, Late(), Game("11", value, 3)), False)
            self.assertIs(shows_game(PAIR, Late(), Game("0", "0", value)), type(value) is int and value == 1)
            self.assertIs(shows_game(PAIR, Late(), Caught("11", "101", value)), False)
        self.assertIs(shows_game(value=Game("11", "101", 3), rule=Late(), setting=PAIR), True)


if __name__ == "__main__":
    unittest.main()
