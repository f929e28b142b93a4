import itertools
import random
import unittest

from common import check_paper, is_integer, others, refuses, same, values
from flagfree.bars import Bars
from flagfree.coding import coded
from flagfree.errors import BadContent, BadLog, BadNumber, BadSetting, Stuck, TooMany
from flagfree.logs import (Clash, Log, asks, first_clash, guesses, shows_clash, shows_told, sure_moves, told_back,
                           told_tables)
from flagfree.menus import Menu
from flagfree.moves import Code, Put
from flagfree.prices import Prices
from flagfree.rules import Table
from flagfree.settings import Setting
from oracles import goes_through, is_clash, is_fit, is_text, slow_told, slow_tree, texts
from samples import alike_settings, mixed_settings, open_settings, some_settings, sound_tables

PLAIN = Code.plain("01")
THREE = Setting(Bars("012", "00"))
PLAIN3 = Code.plain("012")
SEEN = Log(THREE, ("00", "010"), ("1", "1"))
PAIR = Setting(Bars("01", "11"))
NOTHING = (None, None, None, None)


def some_logs(many, seed=233):
    """Logs of what tables sent, some with a pair that was not sent so."""
    draw = random.Random(seed)
    rows = []
    for setting in open_settings(mixed_settings(many, seed) + some_settings(many) + alike_settings(many, seed)):
        for table in sound_tables(draw, setting, 1):
            short = texts(setting.bars.signs, draw.choice([1, 1, 2, 4]))
            contents = draw.sample(short, draw.randint(0, 3))
            pairs = [(content, coded(table, setting, content)) for content in contents]
            if draw.random() < 0.4:
                content, text = draw.choice(texts(setting.bars.signs, 3)), draw.choice(texts(setting.bars.signs, 4))
                pairs.insert(draw.randint(0, len(pairs)), (content, text))
            rows.append(Log(setting, *pairs))
    return rows


def tables_of(log, most=200):
    """The moves of the first tables that fit, one more than there may be."""
    return list(itertools.islice(slow_told(log.setting, log.pairs), most + 1))


def wide_log(many):
    """A log that many tables fit: so many ends with two codes each that send 0 alike."""
    codes = [PLAIN, Code({"0": "0", "1": "10"}), Code({"0": "0", "1": "110"})]
    setting = Setting(Bars("01", "0" * 8), Menu("01", *codes, Put("1")))
    return Log(setting, ("0" * many, "0" * many))


def widest_log(*pairs):
    """A log that far too many tables fit to go through them, and some more pairs."""
    codes = [Code(dict(zip("012", row))) for row in ("012", "021", "210", "102")]
    setting = Setting(Bars("012", "0" * 8, "1" * 8, "2" * 8), Menu("012", *codes, *[Put(sign) for sign in "012"]))
    return Log(setting, *[(sign * 7, sign * 7) for sign in "012"], *pairs)


class LogTest(unittest.TestCase):

    def test_attributes(self):
        log = Log(THREE, ("00", "010"), ("1", "1"))
        self.assertTrue(same((log.setting, log.pairs), (THREE, (("00", "010"), ("1", "1")))))
        self.assertEqual((len(log), list(log), log[0], log[-1], bool(log)),
                         (2, [("00", "010"), ("1", "1")], ("00", "010"), ("1", "1"), True))
        self.assertEqual((Log(THREE).pairs, len(Log(setting=THREE)), bool(Log(THREE))), ((), 0, False))
        for k in (2, -3):
            with self.assertRaises(IndexError):
                log[k]

    def test_pairs_in_it(self):
        for value in values() + [["00", "010"], ("00", "011"), ("010", "00"), ("00",), ("00", "010", ""), "00"]:
            self.assertIs(value in SEEN, False)
        self.assertTrue(("00", "010") in SEEN and ("1", "1") in SEEN)
        self.assertFalse(["1", "1"] in SEEN)

    def test_with_pair(self):
        log = SEEN.with_pair("", "")
        self.assertEqual((log.pairs, len(SEEN)), ((("00", "010"), ("1", "1"), ("", "")), 2))
        self.assertEqual(SEEN.with_pair(text="1", content="1").pairs[1:], (("1", "1"), ("1", "1")))
        for value in others(lambda value: is_text(value, "012")):
            refuses(self, BadLog(2), SEEN.with_pair, value, "0")
            refuses(self, BadLog(2), SEEN.with_pair, "0", value)
            refuses(self, BadLog(0), Log(THREE).with_pair, "0", value)

    def test_joined(self):
        one = Log(THREE, ("0", "0"), ("1", "1"), ("0", "0"))
        other = Log(THREE, ("2", "2"), ("1", "1"), ("0", "1"), ("2", "2"))
        self.assertEqual((one | other).pairs, (*one.pairs, ("2", "2"), ("0", "1"), ("2", "2")))
        self.assertEqual((one | one, one | Log(THREE), Log(THREE) | one), (one, one, one))
        grown = one
        grown |= other
        self.assertEqual((len(grown), len(one)), (6, 3))
        for value in others(lambda value: False):
            refuses(self, BadLog("other"), lambda: one | value)
        refuses(self, BadLog("other"), lambda: one | Log(THREE.with_prices(Prices("012", {"0": 2}))))
        refuses(self, BadLog("other"), lambda: one | one.pairs)

    def test_equality(self):
        self.assertEqual(SEEN, Log(Setting(Bars("012", "00")), ("00", "010"), ("1", "1")))
        self.assertNotEqual(SEEN, Log(THREE, ("1", "1"), ("00", "010")))
        self.assertNotEqual(SEEN, Log(THREE.with_start("0"), *SEEN))
        for value in values():
            self.assertIs(SEEN == value, False)

    def test_errors_in_order(self):
        for value in others(lambda value: isinstance(value, Setting)):
            refuses(self, BadSetting("setting"), Log, value, None)
        for value in others(lambda value: same(value, ("0", "1"))):
            refuses(self, BadLog(0), Log, THREE, value, None)
            refuses(self, BadLog(2), Log, THREE, ("", ""), ("0", "1"), value, 7)
        for value in others(lambda value: is_text(value, "012")):
            refuses(self, BadLog(1), Log, THREE, ("", ""), ("0", value))
            refuses(self, BadLog(1), Log, THREE, ("", ""), (value, "0"))
        refuses(self, BadLog(0), Log, THREE, ["0", "0"])
        refuses(self, BadLog(1), Log, THREE, ("0", "0"), ("0", "0", "0"))


class ToldTablesTest(unittest.TestCase):

    def check(self, log):
        expected = tables_of(log)
        if len(expected) > 200:
            found = []
            with self.assertRaises(TooMany) as caught:
                for table in told_tables(log):
                    found.append(table)
            self.assertEqual((caught.exception.what, caught.exception.most), ("tables", 200))
            expected = expected[:200]
        else:
            found = list(told_tables(log))
        self.assertEqual([dict(table.moves) for table in found], expected)
        self.assertTrue(all(type(table) is Table for table in found))
        return len(found)

    def test_by_a_plain_search(self):
        many = [0, 0, 0]
        for log in some_logs(80):
            found = self.check(log)
            many[0] += found == 0
            many[1] += found == 1
            many[2] += found > 1
        self.assertGreater(min(many), 10, str(many))

    def test_the_201st(self):
        for many in (3, 4, 5, 6):
            self.assertEqual(self.check(wide_log(many)), min(200, 3 ** many))
        # Of just 200 tables none is too many.
        eight = [Code(dict(zip("012", row))) for row in itertools.permutations("012")]
        setting = Setting(Bars("012"), Menu("012", *eight))
        self.assertEqual(self.check(Log(setting, ("0", "0"))), 2)

    def test_by_hand(self):
        self.assertEqual(list(told_tables(SEEN)), [Table({"": PLAIN3, "0": Put("1")})])
        self.assertEqual(list(told_tables(log=Log(THREE))), [Table({})])
        self.assertEqual(list(told_tables(Log(THREE, ("", "")))), [Table({})])
        self.assertEqual(list(told_tables(Log(THREE, ("", "0")))), [])
        self.assertEqual(list(told_tables(Log(THREE, ("0", "")))), [])
        self.assertEqual(list(told_tables(Log(THREE.with_menu(Menu("012")), ("0", "0")))), [])
        # A put that leads back to its own end asks for nothing more, and sends no content.
        self.assertEqual(list(told_tables(Log(Setting(Bars("01")), ("1", "0" * 300)))), [])

    def test_a_move_must_be_fit_for_all_signs(self):
        self.assertEqual(list(told_tables(Log(PAIR, ("10", "10")))), [])
        self.assertEqual(list(told_tables(Log(PAIR, ("10", "100")))), [Table({"": PLAIN, "1": Put("0")})])

    def test_each_pair_begins_at_the_start(self):
        there = PAIR.with_start("1")
        self.assertEqual(list(told_tables(Log(there, ("1", "01"), ("0", "00")))), [Table({"1": Put("0"), "": PLAIN})])
        self.assertEqual(list(told_tables(Log(there, ("1", "01"), ("0", "0")))), [])

    def test_it_is_asked_as_it_goes(self):
        for first in told_tables(wide_log(6)):
            self.assertEqual(dict(first.moves), tables_of(wide_log(6), 0)[0])
            break

    def test_errors(self):
        for value in others(lambda value: isinstance(value, Log)):
            refuses(self, BadLog("log"), lambda: next(iter(told_tables(value))))


class ToldBackTest(unittest.TestCase):

    def test_by_a_plain_search(self):
        many = [0, 0]
        for log in some_logs(80, 239):
            first = tables_of(log, 0)
            found = told_back(log)
            many[len(first)] += 1
            if first:
                self.assertTrue(type(found) is Table and dict(found.moves) == first[0])
            else:
                self.assertEqual((type(found), found.tree), (Clash, slow_tree(log.setting, log.pairs)))
                self.assertIs(bool(found), False)
        self.assertGreater(min(many), 20, str(many))

    def test_by_hand(self):
        log = Log(THREE, ("01", "011"), ("1", "2"))
        self.assertEqual(told_back(log), Clash(("", (("0", NOTHING), ("0", NOTHING), None, None))))
        self.assertEqual(told_back(log=Log(THREE, ("", "0"))), Clash(None))
        self.assertEqual(told_back(Log(THREE.with_menu(Menu("012")), ("0", "0"))), Clash(("", ())))
        self.assertEqual(told_back(Log(THREE)), Table({}))
        self.assertEqual(len(told_back(wide_log(6))), 6)

    def test_first_clash_by_a_plain_search(self):
        told = {}
        for log in some_logs(120, 241):
            expected = None
            for k in reversed(range(len(log))):
                if not tables_of(Log(log.setting, *log.pairs[:k + 1]), 0):
                    expected = k
            self.assertTrue(same(first_clash(log), expected))
            told[expected] = told.get(expected, 0) + 1
        self.assertGreater(min(told[None], told[0], told[1], told[2]), 3, str(told))

    def test_first_clash_by_hand(self):
        self.assertEqual([first_clash(SEEN), first_clash(log=SEEN.with_pair("00", "020"))], [None, 2])
        self.assertEqual([first_clash(Log(THREE)), first_clash(Log(THREE, ("", "0")))], [None, 0])
        self.assertIsNone(first_clash(wide_log(6)))
        self.assertEqual(first_clash(wide_log(5).with_pair("", "0")), 1)
        self.assertEqual(first_clash(Log(THREE, ("0", "0"), ("0", "1"), ("", "0"))), 1)

    def test_more_tables_than_can_be_gone_through(self):
        self.assertEqual([first_clash(widest_log()), len(told_back(widest_log()))], [None, 19])
        for pairs, at in (((("", "0"),), 3), ((("0", ""),), 3), ((("0", "0"), ("", ""), ("", "1")), 5),
                          ((("00", "00"), ("1", "1"), ("0", "22")), 5), ((("0", "12"), ("1", "1")), 3)):
            log = widest_log(*pairs)
            self.assertEqual(first_clash(log), at)
            self.assertEqual((list(told_tables(log)), sure_moves(log), guesses(log, "0"), asks(log, 3)),
                             ([], {}, (), None))

    def test_errors(self):
        for value in others(lambda value: isinstance(value, Log)):
            refuses(self, BadLog("log"), told_back, value)
            refuses(self, BadLog("log"), first_clash, value)


class GuessesTest(unittest.TestCase):

    def plain_guesses(self, log, content):
        """The texts that told tables send for a content, None if there are too many tables."""
        tables = tables_of(log)
        if len(tables) > 200:
            return None
        found = set()
        for moves in tables:
            try:
                found.add(coded(Table(moves), log.setting, content))
            except (Stuck, TooMany):
                continue
        return tuple(sorted(found))

    def test_sure_moves_by_a_plain_search(self):
        many = [0, 0]
        for log in some_logs(100, 251):
            tables = tables_of(log)
            if len(tables) > 200:
                refuses(self, TooMany("tables", 200), sure_moves, log)
                continue
            expected = {} if not tables else {end: move for end, move in tables[0].items()
                                              if all(end in told and told[end] == move for told in tables)}
            self.assertTrue(same(sure_moves(log), expected))
            many[bool(tables) and len(expected) < len(tables[0])] += 1
        self.assertGreater(min(many), 5, str(many))

    def test_guesses_by_a_plain_search(self):
        draw = random.Random(257)
        many = [0, 0, 0]
        for log in some_logs(100, 263):
            for content in draw.sample(texts(log.setting.bars.signs, 4), 8):
                expected = self.plain_guesses(log, content)
                if expected is None:
                    refuses(self, TooMany("tables", 200), guesses, log, content)
                    continue
                self.assertTrue(same(guesses(log, content), expected))
                many[min(len(expected), 2)] += 1
        self.assertGreater(min(many), 20, str(many))

    def test_asks_by_a_plain_search(self):
        told = {}
        for log in some_logs(60, 269):
            if len(tables_of(log)) > 200:
                refuses(self, TooMany("tables", 200), asks, log, 0)
                continue
            for most in range(4 if len(log.setting.bars.signs) == 2 else 3):
                expected = next((content for content in texts(log.setting.bars.signs, most)
                                 if len(self.plain_guesses(log, content)) > 1), None)
                self.assertTrue(same(asks(log, most), expected))
                told[expected if expected is None else len(expected)] = True
        self.assertTrue({None, 1, 2} <= set(told), str(told))

    def test_by_hand(self):
        self.assertEqual((sure_moves(SEEN), guesses(SEEN, "0010")), ({"": PLAIN3, "0": Put("1")}, ("010110",)))
        self.assertEqual(guesses(content="", log=SEEN), ("",))
        self.assertEqual([asks(SEEN, 5), asks(most=5, log=Log(THREE))], [None, None])
        loose = wide_log(1)
        self.assertEqual((len(list(told_tables(loose))), sure_moves(loose)), (3, {}))
        self.assertEqual([guesses(loose, content) for content in ("1", "0", "00")], [("1", "10", "110"), ("0",), ()])
        self.assertEqual([asks(loose, 0), asks(loose, 1), asks(loose, 5)], [None, "1", "1"])
        nobody = Log(THREE, ("", "0"))
        self.assertEqual((sure_moves(nobody), guesses(nobody, ""), asks(nobody, 5)), ({}, (), None))
        # A table that puts in signs for ever sends nothing for a content.
        self.assertEqual(guesses(Log(PAIR, ("", "")), "1"), ())
        sure_moves(SEEN).clear()
        self.assertEqual(len(sure_moves(SEEN)), 2)

    def test_two_ways_to_the_same_pair(self):
        setting = Setting(Bars("012", "00"))
        log = Log(setting, ("0", "0"))
        self.assertEqual([table["" ] for table in told_tables(log)], [PLAIN3])
        other = Log(setting.with_start("0"), ("1", "11"))
        told = list(told_tables(other))
        self.assertEqual(told, [Table({"0": Put("1"), "": PLAIN3})])
        self.assertEqual(guesses(other, "10"), ("110",))

    def test_many_contents(self):
        codes = [Code(dict(zip("0123", row))) for row in list(itertools.permutations("0123"))[:8]]
        setting = Setting(Bars("0123", "01"), Menu("0123", *codes))
        log = Log(setting, ("0", "0"))
        self.assertEqual(len(list(told_tables(log))), 6)
        self.assertEqual(asks(log, 5), "1")
        alone = Log(setting.with_menu(Menu("0123", Code.plain("0123"), Put("2"))), ("1", "1"))
        self.assertIsNone(asks(alone, 5))

    def test_errors_in_order(self):
        wide = wide_log(6)
        for value in others(lambda value: isinstance(value, Log)):
            refuses(self, BadLog("log"), sure_moves, value)
            refuses(self, BadLog("log"), guesses, value, None)
            refuses(self, BadLog("log"), asks, value, None)
        for value in others(lambda value: is_text(value, "01")):
            refuses(self, BadContent(value), guesses, wide, value)
        for value in others(lambda value: is_integer(value) and 0 <= value <= 5):
            refuses(self, BadNumber(value), asks, wide, value)
        refuses(self, BadNumber(6), asks, wide, 6)
        refuses(self, TooMany("tables", 200), sure_moves, wide)
        refuses(self, TooMany("tables", 200), guesses, wide, "")
        refuses(self, TooMany("tables", 200), asks, wide, 0)


class ShowsTest(unittest.TestCase):

    def test_told_by_a_plain_search(self):
        draw = random.Random(271)
        many = [0, 0]
        for log in some_logs(60, 277):
            setting = log.setting
            rows = [Table(moves) for moves in tables_of(log, 5)[:5]]
            for table in rows:
                self.assertIs(shows_told(log, table), True)
            rows += sound_tables(draw, setting, 2)
            for table in list(rows):
                for end in setting.bars.ends:
                    rows.append(table.with_move(end, draw.choice(setting.menu.moves)))
                    rows.append(Table({one: move for one, move in table.moves if one != end}))
                rows.append(table.with_move("7", PLAIN))
                rows.append(table.with_move(draw.choice(setting.bars.ends), Put("z")))
            for table in rows:
                moves = {end: move for end, move in table.moves if end in setting.bars.ends
                         and move in setting.menu.moves and is_fit(setting, end, move)}
                right = goes_through(setting, moves, log.pairs)[0] == "all"
                self.assertIs(shows_told(log, table), right)
                many[right] += 1
        self.assertGreater(min(many), 100, str(many))

    def test_told_by_hand(self):
        self.assertIs(shows_told(SEEN, Table({"": PLAIN3, "0": Put("1"), "2": PLAIN3})), True)
        self.assertIs(shows_told(SEEN, Table({"": PLAIN3, "0": Put("2")})), False)
        self.assertIs(shows_told(value=Table({"": PLAIN3}), log=SEEN), False)
        self.assertIs(shows_told(Log(PAIR, ("10", "10")), Table({"": PLAIN, "1": PLAIN})), False)
        self.assertIs(shows_told(Log(PAIR, ("1", "1")), Table({"": PLAIN, "1": PLAIN})), True)
        self.assertIs(shows_told(Log(THREE.with_menu(Menu("012", PLAIN3)), ("00", "010")), told_back(SEEN)), False)
        self.assertIs(shows_told(Log(THREE), Table({})), True)

    def near(self, tree, ends):
        """Trees with a branch otherwise."""
        others_of_it = [None, (), (tree,), ("", ()), [tree], "x", 7, (None, None)]
        yield from others_of_it
        if tree is None:
            return
        end, branches = tree
        yield (end, list(branches))
        yield [end, branches]
        yield (end, branches, None)
        yield (end, branches + (None,))
        yield (end, branches[1:])
        yield from ((other, branches) for other in [*ends, None, 7, (end,)] if other != end)
        for k, branch in enumerate(branches):
            for other in self.near(branch, ends):
                yield (end, branches[:k] + (other,) + branches[k + 1:])

    def test_clash_by_a_plain_search(self):
        draw = random.Random(281)
        many = [0, 0]
        for log in some_logs(60, 283):
            found = told_back(log)
            if isinstance(found, Clash):
                self.assertIs(shows_clash(log, found), True)
                many[0] += 1
                rows = list(itertools.islice(self.near(found.tree, log.setting.bars.ends), 3000))
                trees = draw.sample(rows, min(len(rows), 60))
            else:
                trees = [None, ("", ()), (log.setting.start, (None,) * len(log.setting.menu))]
            for tree in trees:
                right = is_clash(log.setting, log.pairs, tree)
                self.assertIs(shows_clash(log, Clash(tree)), right)
                many[1] += right is False
        self.assertTrue(many[0] > 20 and many[1] > 300, str(many))

    def test_a_log_that_some_table_fits(self):
        for tree in (None, ("", (None,) * 4), ("", (("0", NOTHING), ("0", NOTHING), None, None))):
            self.assertIs(shows_clash(SEEN, Clash(tree)), False)
        self.assertIs(shows_clash(Log(THREE), Clash(None)), False)
        self.assertIs(shows_clash(Log(THREE.with_menu(Menu("012"))), Clash(("", ()))), False)

    def test_deep_trees(self):
        # 24 ends, at each of which only the plain code goes on: the tree is as deep.
        setting = Setting(Bars("01", "00000000", "11111111", "01010101"), Menu("01", PLAIN, Put("0"), Put("1")))
        contents = ["0000000", "1111111", "0101010"]
        log = Log(setting, *[(content, content) for content in contents], ("", "1"))
        found = told_back(log)
        self.assertIs(shows_clash(log, found), True)
        tree, deep = found.tree, 0
        while tree is not None:
            tree, deep = next((branch for branch in tree[1] if branch is not None), None), deep + 1
        self.assertGreater(deep, 15)
        tree = None
        for _ in range(50000):
            tree = ("", (tree, None, None))
        self.assertIs(shows_clash(log, Clash(tree)), False)
        while tree is not None:
            tree = tree[1][0]

    def test_values(self):
        clash = SEEN.with_pair("00", "020")
        for value in values():
            self.assertIs(shows_told(SEEN, value), False)
            self.assertIs(shows_told(Log(THREE), value), isinstance(value, Table))
            self.assertIs(shows_clash(clash, value), False)
            self.assertIs(shows_clash(clash, Clash(value)), False)
            self.assertIs(shows_clash(Log(THREE, ("", "0")), Clash(value)), value is None)
            self.assertIs(shows_clash(clash, told_back(clash).tree), False)

    def test_errors(self):
        for value in others(lambda value: isinstance(value, Log)):
            refuses(self, BadLog("log"), shows_told, value, None)
            refuses(self, BadLog("log"), shows_clash, value, None)

    def test_clash(self):
        check_paper(self, Clash, ("tree",), False)


if __name__ == "__main__":
    unittest.main()
