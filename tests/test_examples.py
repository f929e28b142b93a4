"""The examples of the document, as they stand there."""

import unittest

from common import same, same_error, told
from flagfree import errors

BARS = r'''
>>> from flagfree.bars import Bars
>>> runs, flag = Bars("01", "000000", "111111"), Bars("01", "01111110")
>>> [str(runs), runs.ends == ("", "0", "00", "000", "0000", "00000", "1", "11", "111", "1111", "11111"), flag.ends[-1], flag.end_of("110111")]
['01 : 000000 111111', True, '0111111', '0111']
>>> [runs.behind("0000", "1"), runs.behind("11111", "1"), "0111111000" in runs, "01011" in runs, flag.behind("0111111", "10"), str(runs | Bars("01", "11111", "1111110"))]
['1', None, True, False, '0', '01 : 000000 11111']
>>> [flag <= runs, Bars("01", "0000000") <= runs, str(~Bars("01", "001", "01")), str(flag.changed({"0": "1", "1": "0"})), str(Bars("ab"))]
[True, True, '01 : 10', '01 : 10000001', 'ab : -']
>>> Bars("10")
raises BadSigns('10')
>>> Bars("01", "", "012")
raises BadWord('')
>>> runs.end_of("0111111")
raises BadSent('0111111')
>>> Bars.read("01 : 11 1")
raises BadText(0, 3)
>>> Bars.read("01 :")
raises BadText(0, 2)
>>> Bars.read("01 : - 1")
raises BadText(0, 3)
'''

MOVES_MENUS_PRICES = r'''
>>> from flagfree.menus import Menu
>>> from flagfree.moves import Code, Move, Put
>>> from flagfree.prices import Prices, Rate
>>> slip = Code.escape("aex", "x", {"e": "a", "x": "x"})
>>> [str(slip), slip["e"], "q" in slip, len(slip), slip == Code({"x": "xx", "e": "xa", "a": "a"}), str(Code.chosen("01", {"0": "1", "1": "1"}))]
['code a a e xa x xx', 'xa', False, 3, True, 'code 0 10 1 11']
>>> [Move.read("put 0") == Put("0"), slip.is_of("aex"), slip.is_of("ax"), str(Code.plain("01").changed({"0": "b", "1": "a"}))]
[True, True, False, 'code a a b b']
>>> menu = Menu("01", Put("1"), Code.plain("01"), Put("0"))
>>> [str(menu), menu == Menu.plain("01"), menu.place(Put("1")), str(menu - Menu("01", Put("0"))), Menu("01", Put("1")) < menu]
['01 : code 0 0 1 1 ; put 0 ; put 1', True, 2, '01 : code 0 0 1 1 ; put 1', True]
>>> prices = Prices("01", {"0": 2}, weights={"1": 3})
>>> [str(prices), prices.cost("0100"), prices.weigh("011"), str(3 * prices), prices.with_price("0", 1) == Prices("01", {}, {"1": 3})]
['01 : 2 1 / 1 3', 7, 7, '01 : 6 3 / 1 3', True]
>>> [str(Rate(12, 10)), Rate(6, 5) < Rate(5, 4), Rate(6, 5) > 1, str(1 + Rate(1, 5)), str(2 * Rate(3, 4)), Rate(6, 5) // 7, str(2 - Rate(1, 3)), bool(Rate(0))]
['6/5', True, True, '6/5', '3/2', 8, '5/3', False]
>>> Code({"0": "0", "1": "01"})
raises BadMove('begins')
>>> Menu("01", Put("0"), Put("2"))
raises BadMenu(1)
>>> Prices("01", {"0": 0})
raises BadPrice(0)
'''

SETTINGS = r'''
>>> from flagfree.settings import Setting
>>> from flagfree.bars import Bars
>>> pair = Setting(Bars("01", "11"))
>>> [pair.outcomes("1", Code.plain("01")), pair.outcomes("1", Put("0")), pair.is_fit("1", Code.plain("01"))]
[(('0', '0', ''), ('1', '1', None)), ((None, '0', ''),), False]
>>> [[str(move) for move in pair.let("1")], pair.with_start("1").start, pair.changed({"0": "1", "1": "0"}).bars == Bars("01", "00")]
[['put 0'], '1', True]
>>> [str(pair), Setting.read(str(pair)) == pair]
['01 : 11 / 01 : code 0 0 1 1 ; put 0 ; put 1 / 01 : 1 1 / 1 1 / -', True]
>>> pair.with_start("0")
raises BadEnd('0')
'''

RULES_CODING = r'''
>>> from flagfree.bars import Bars
>>> from flagfree.coding import Step, coded, decoded, is_coding, paid, steps
>>> from flagfree.moves import Code, Put
>>> from flagfree.rules import By, Late, Table
>>> from flagfree.settings import Setting
>>> five = Setting(Bars("01", "111111"))
>>> plain = Code.plain("01")
>>> table = Table({"": plain, "1": plain, "11": plain, "111": plain, "1111": plain, "11111": Put("0")})
>>> [coded(table, five, "1111110"), paid(table, five, "1111110"), decoded(table, five, "11111010"), coded(Late(), five, "11111")]
['11111010', 8, '1111110', '11111']
>>> [table.reached(five), str(table)[-15:], Late()("11111", five) == Put("0"), is_coding(table, five, "111110"), is_coding(table, five, "1111101")]
[('', '1', '11', '111', '1111', '11111'), '; 11111 : put 0', True, False, True]
>>> [step.sign for step in steps(table, five, "111111")]
['1', '1', '1', '1', '1', None, '1']
>>> decoded(table, five, "1111110")
raises Refused(5)
>>> coded(By(lambda sent, setting: plain), five, "111111")
raises Stuck('11111')
'''

TRAPS = r'''
>>> from flagfree.bars import Bars
>>> from flagfree.look_traps import shows_open, shows_trap
>>> from flagfree.settings import Setting
>>> from flagfree.traps import Open, Trap, judged, open_ends, rounds
>>> late, both = Setting(Bars("01", "110", "111")), Setting(Bars("01", "00", "11"))
>>> [rounds(late), open_ends(late), bool(judged(late)), shows_open(late, judged(late)), rounds(both) == {"": 2, "0": 1, "1": 1}]
[{'11': 1}, ('', '1'), True, True, True]
>>> [judged(both) == Trap(rounds(both)), shows_trap(both, Trap({"": 5, "0": 1, "1": 1})), shows_trap(both, Trap({"0": 1, "1": 1})), shows_trap(both, Trap({"": 1, "0": 1, "1": 1}))]
[True, True, False, False]
>>> judged("01")
raises BadSetting('setting')
'''

RATES = r'''
>>> from flagfree.look_rates import shows_numbers, shows_ring, shows_worst
>>> from flagfree.prices import Rate
>>> from flagfree.rates import Worst, bound, content_for, worst
>>> found = worst(five, table)
>>> [str(found.rate), found.numbers["1"], found.numbers["11111"], found.begin, found.ring, shows_worst(five, table, found)]
['6/5', 1, 5, '1', '11111', True]
>>> [bound(five, table, 6), paid(table, five, content_for(five, found, 12)), shows_ring(five, table, Rate(1, 1), "", "0"), shows_numbers(five, table, Rate(1, 1), found.numbers)]
[7, 19, True, False]
>>> eager = Table({"": plain, "1": Put("0")})
>>> [str(worst(five, eager).rate), worst(five, eager).numbers, str(worst(five, Table({"": plain, "1": Put("1"), "11": Put("0")})).rate)]
['2', {'': 0, '1': 1}, '3']
>>> worst(Setting(Bars("01", "111")), Table({"": Put("0")}))
raises BadTable('')
'''

LEAST = r'''
>>> from flagfree.least import Least, can_keep, least, least_rate
>>> from flagfree.look_least import shows_forces, shows_keeps, shows_least
>>> from flagfree.menus import Menu
>>> from flagfree.moves import Code, Put
>>> from flagfree.prices import Rate
>>> from flagfree.rules import Table
>>> ones = Setting(Bars("01", "111111"))
>>> found = least(ones)
>>> [str(found.rate), shows_least(ones, found), least_rate(late) == Rate(2, 1), bool(least(both)), least_rate(both)]
['6/5', True, True, False, None]
>>> steps = {"1" * k: k for k in range(6)}
>>> plain = {"1" * k: Code.plain("01") for k in range(5)}
>>> [shows_keeps(ones, Rate(6, 5), Table({**plain, "11111": Put("0")}), steps), shows_forces(ones, Rate(6, 5), steps, {}), can_keep(ones, Rate(7, 6))]
[True, True, False]
>>> [str(least_rate(ones, fixed={"111": Put("0")})), least_rate(ones, fixed={"": Put("1")}) == Rate(2, 1), least_rate(ones, fixed={"11111": Code.plain("01")}) == Rate(5, 4)]
['4/3', True, True]
'''

BEST = r'''
>>> from flagfree.bars import Bars
>>> from flagfree.best import best_tables, count_best, fewest_moves, first_best, is_best, least_moves, nearest_best, needless_moves
>>> from flagfree.moves import Code, Put
>>> from flagfree.rules import Table
>>> from flagfree.settings import Setting
>>> three = Setting(Bars("012", "00"))
>>> plain = Code.plain("012")
>>> [count_best(three), first_best(three) == Table({"": plain, "0": Put("1")}), [table["0"] == Put("2") for table in best_tables(three)]]
[2, True, [False, True]]
>>> [least_moves(three, "0") == (Put("1"), Put("2")), least_moves(three, "") == (plain,)]
[True, True]
>>> [needless_moves(three) == (Put("0"), Put("1"), Put("2")), list(fewest_moves(three)) == [plain, Put("1")], nearest_best(three, Table({"0": Put("2")}))[1]]
[True, True, 1]
>>> [is_best(three, Table({"": plain, "0": Put("2"), "7": plain})), is_best(three, Table({"": plain, "0": plain})), is_best(three, None)]
[True, False, False]
>>> first_best(Setting(Bars("01", "00", "11")))
raises NoWay('')
'''

SIZES = r'''
>>> from flagfree.look_sizes import shows_round, shows_sizes
>>> from flagfree.sizes import Round, Sizes, best_moves, reply, round_of, size, sizes
>>> [[row[""] for row in sizes(ones, 11).rows], round_of(ones) == Round(1, 5, 6, ones.bars.ends), size(ones, 10 ** 29) == 10 ** 29 + (10 ** 29 - 1) // 5]
[[0, 1, 2, 3, 4, 5, 7, 8, 9, 10, 11, 13], True, True]
>>> [best_moves(ones, 1, "11111") == (Put("0"),), reply(ones, 3, "1111", Code.plain("01")), size(both, 1), size(both, 2), size(both, 10 ** 20)]
[True, '1', 1, None, None]
>>> unlike = Setting(Bars("01", "0011", "00101"))
>>> [[sizes(unlike, 5).rows[n][end] for n in range(6)] for end in ("", "00")]
[[0, 1, 2, 3, 5, 7], [0, 1, 4, 7, 10, 13]]
>>> [size(unlike, 100), shows_round(ones, Round(6, 5, 6, ("", "1", "11")), sizes(ones, 11)), shows_sizes(ones, sizes(ones, 11))]
[197, False, True]
>>> round_of(both)
raises NoRound(200)
'''

FOE = r'''
>>> from flagfree.foe import Caught, Foe, Game, shows_game
>>> from flagfree.rules import By, Late, Table
>>> foe = Foe(pair)
>>> [str(foe.found.rate), foe.play(Late(), 3) == Game("111", "10101", 5), foe.floor(3) <= 5, foe.next_sign("", Code.plain("01")), foe.next_sign("1", Put("0"))]
['2', True, True, '1', None]
>>> rash = By(lambda sent, setting: Code.plain("01"))
>>> [foe.play(rash, 9) == Caught("11", "11", "word"), [price for content, text, price in foe.walk(rash)], shows_game(pair, rash, Caught("11", "11", "word"))]
[True, [1], True]
>>> both = Setting(Bars("01", "00", "11"))
>>> lost = Foe(both).play(Table({"": Code.plain("01"), "0": Put("1"), "1": Put("0")}), 5)
>>> [lost.content, lost.why, len(lost.sent), lost.sent[:5], bool(lost), Foe(both).floor(5)]
['0', 'puts', 102, '01010', False, None]
>>> foe.play(Late(), 0)
raises BadNumber(0)
'''

COMPARED = r'''
>>> from flagfree.compared import Behind, Never, compared, greatest_excess, same_price, same_text
>>> from flagfree.look_compared import shows_compared
>>> less = compared(five, table, eager)
>>> [less.excess, less.content, less.numbers["", ""], bool(compared(five, eager, table)), greatest_excess(five, eager, table, 3)]
[0, '', 0, False, (2, '110')]
>>> [shows_compared(five, table, eager, less), shows_compared(five, eager, table, compared(five, eager, table)), shows_compared(five, eager, table, Behind("1", "01")), shows_compared(five, eager, table, Behind("", "11111"))]
[True, True, True, False]
>>> [same_price(five, table, eager), same_text(five, table, eager), same_text(five, table, table)]
['10', '10', None]
'''

STACKS = r'''
>>> from flagfree.bars import Bars
>>> from flagfree.moves import Code, Put
>>> from flagfree.prices import Rate
>>> from flagfree.rates import Worst
>>> from flagfree.rules import Table
>>> from flagfree.settings import Setting
>>> from flagfree.stacks import Layer, Stack, shows_stack
>>> ones = Layer(Setting(Bars("01", "11")), Table({"": Code.plain("01"), "1": Put("0")}))
>>> zeros = Layer(Setting(Bars("01", "00")), Table({"": Code.plain("01"), "0": Put("1")}))
>>> both = Stack(ones, zeros)
>>> [both.coded("11"), both.paid("11"), both.decoded("1011"), both.decoded(""), both.ends_behind("11"), both.ends_behind("10"), len(both), both == Stack(ones) + zeros]
['1011', 4, '11', '', ('1', ''), ('', '0'), 2, True]
>>> [str(both.worst().rate), str(both.product()), both.is_matched, both.worst().numbers[("", "")], shows_stack(both, both.worst())]
['3', '4', True, 0, True]
>>> [shows_stack(both, Worst(Rate(3), both.worst().numbers, "1", "1")), shows_stack(both, Worst(Rate(5, 2), both.worst().numbers, "1", "01"))]
[True, False]
>>> both.decoded("101")
raises BadSent('101')
>>> Stack(ones, Layer(Setting(Bars("ab")), Table({"": Code.plain("ab")})))
raises BadSetting('signs')
'''

FLAGS = r'''
>>> from flagfree.flags import Chosen, can_join, cheapest, flags_of, needless, price_range, rate_by_starts, weight_range, without_needless
>>> wide = Setting(Bars("01", "11", "0000"))
>>> [needless(wide), without_needless(wide) == Bars("01", "11"), can_join(pair, ["0000", "000", "11"]), str(rate_by_starts(pair)["1"])]
[('0000',), True, ('0000',), '2']
>>> [flags_of(pair, 2) == Chosen(("00", "11"), Rate(2)), flags_of(pair, 3) == Chosen(("000", "010", "101", "111"), Rate(3, 2))]
[True, True]
>>> cheapest(pair, ["000", "010", "11"], 2) == Chosen(("000", "010"), Rate(2))
True
>>> [price_range(Setting(Bars("012", "11")), "2"), weight_range(pair, "0"), weight_range(pair, "1")]
[(1, 2), (1, 9), (1, 1)]
>>> price_range(pair, "2")
raises BadSign('2')
'''

LOGS = r'''
>>> from flagfree.logs import Clash, Log, asks, first_clash, guesses, shows_clash, shows_told, sure_moves, told_back, told_tables
>>> seen = Log(three, ("00", "010"), ("1", "1"))
>>> [told_back(seen) == Table({"": plain, "0": Put("1")}), len(list(told_tables(seen))), sure_moves(seen)["0"] == Put("1"), guesses(seen, "0010")]
[True, 1, True, ('010110',)]
>>> both = seen.with_pair("00", "020")
>>> [first_clash(both), bool(told_back(both)), shows_clash(both, told_back(both)), first_clash(seen), shows_told(seen, Table({"": plain, "0": Put("1"), "2": plain}))]
[2, False, True, None, True]
>>> nothing = (None, None, None, None)
>>> told_back(Log(three, ("01", "011"), ("1", "2"))) == Clash(("", (("0", nothing), ("0", nothing), None, None)))
True
'''

LINKS = r'''
>>> from flagfree.links import Receiver, Sender
>>> from flagfree.moves import Code, Put
>>> from flagfree.rules import Table
>>> from flagfree.settings import Setting
>>> line = Setting(Bars("01", "111"))
>>> table = Table({"": Code.plain("01"), "1": Code.plain("01"), "11": Put("0")})
>>> sender, receiver = Sender(line, table), Receiver(line, table)
>>> [sender.send("0111"), sender.end, sender.send("11"), sender.content, sender.sent, sender.price, sender.cost("1"), list(sender)]
['01101', '1', '101', '011111', '01101101', 8, 1, ['send', 'send']]
>>> [receiver.hear("0110"), receiver.hear("1101"), receiver.content == sender.content, receiver.end, receiver.undo(), receiver.heard, len(receiver)]
['011', '111', True, '1', 'hear', '0110', 1]
>>> receiver.hear("111")
raises Refused(2)
>>> Sender(line, Table({"": Code.plain("01"), "1": Code.plain("01"), "11": Code.plain("01")}))
raises BadLink('table')
'''

TEXTS = r'''
>>> from flagfree.reader import read_setting, read_table
>>> from flagfree.texts import setting_text, table_text
>>> [setting_text(line).split("\n")[0], read_setting(setting_text(line)) == line, table_text(table).split("\n"), read_table(table_text(table)) == table]
['bars 01 : 111', True, ['- : code 0 0 1 1', '1 : code 0 0 1 1', '11 : put 0'], True]
>>> read_setting("bars 01 : 111\nmenu")
raises BadText(1, 1)
'''

DESK = r'''
>>> from flagfree.desk import Desk
>>> desk = Desk()
>>> desk.run("bars s 01 : 111111", "best t s", "rate s", "send s t 1111110", "read s t 11111010", "size s 11", "count s", "rounds s")
['ok', 'ok', '6/5', '11111010', '1111110', '13', '1', 'none']
>>> [desk("worst s t"), desk("excess s t t"), desk("same s t t"), desk("send s t -"), desk("flags s 2"), desk("show s")]
['6/5', '0', 'same', '-', '00 11', '01 : 111111 / 01 : code 0 0 1 1 ; put 0 ; put 1 / 01 : 1 1 / 1 1 / -']
>>> [desk("drop t"), desk("send s t 1"), desk("undo"), len(desk), desk("bars u 01 : 00 11"), desk("best v u"), desk("rounds u"), desk("worst t s"), desk.names]
['ok', 'lacks t', 'ok', 2, 'ok', 'refused NoWay', '- 2 ; 0 1 ; 1 1', 'lacks t', ('s', 't', 'u')]
>>> desk("bars s 01 : 11 1")
raises BadLine(5)
>>> desk("send s t")
raises BadLine(3)
'''

ORDER = (BARS, MOVES_MENUS_PRICES, SETTINGS, RULES_CODING, TRAPS, RATES, LEAST, BEST, SIZES, FOE, COMPARED, STACKS, FLAGS, LOGS,
         LINKS, TEXTS, DESK)


class ExamplesTest(unittest.TestCase):

    def check_value(self, line, row, names):
        """See that a line gives the value, or raises the error, that the row below it tells."""
        try:
            found = eval(line, names)
        except errors.FlagError as error:
            self.assertTrue(row.startswith("raises "), f"{line}: {told(error)}")
            self.assertTrue(same_error(error, eval(row[len("raises "):], vars(errors))), f"{line}: {told(error)}")
            return
        self.assertFalse(row.startswith("raises "), f"{line}: {found!r}")
        self.assertTrue(same(found, eval(row, {})), f"{line}: {found!r}")

    def test_examples(self):
        names = {}
        many = 0
        for block in ORDER:
            rows = block.strip().split("\n")
            for line, row in zip(rows, rows[1:] + [">>> "]):
                if line.startswith(">>> ") and row.startswith(">>> "):
                    exec(line[len(">>> "):], names)
                elif line.startswith(">>> "):
                    self.check_value(line[len(">>> "):], row, names)
                    many += 1
        self.assertEqual(many, 77)


if __name__ == "__main__":
    unittest.main()
