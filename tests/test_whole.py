"""What holds over the whole program."""

import itertools
import random
import unittest
from fractions import Fraction

from common import same
from flagfree.bars import Bars
from flagfree.best import best_tables, count_best, first_best, is_best
from flagfree.coding import coded, decoded, paid
from flagfree.compared import compared, same_text
from flagfree.desk import Desk
from flagfree.errors import TooMany
from flagfree.flags import needless, price_range, rate_by_starts
from flagfree.foe import Foe, Game, shows_game
from flagfree.least import least, least_rate
from flagfree.links import Receiver, Sender
from flagfree.logs import Log, shows_told, told_back
from flagfree.look_least import shows_least
from flagfree.look_rates import shows_worst
from flagfree.menus import Menu
from flagfree.moves import Code, Put
from flagfree.prices import Prices
from flagfree.rates import worst
from flagfree.reader import read_setting, read_table
from flagfree.rules import Late, Table
from flagfree.settings import Setting
from flagfree.sizes import size, sizes
from flagfree.stacks import Layer, Stack
from flagfree.texts import setting_text, table_text
from flagfree.traps import rounds
from oracles import texts
from samples import mixed_settings, open_settings, some_settings, sound_tables


def some(many, seed=331):
    return mixed_settings(many, seed) + some_settings(many)


def number(rate):
    """A least rate as a number that compares; None is above all."""
    return Fraction(10 ** 9) if rate is None else Fraction(rate.price, rate.weight)


def swapped(setting, other):
    """A dict from each sign of a setting to one of an alphabet."""
    return dict(zip(setting.bars.signs, other))


class LeastRateTest(unittest.TestCase):

    def test_it_is_that_of_the_best_tables(self):
        for setting in open_settings(some(60)):
            rate = least_rate(setting)
            try:
                tables = list(best_tables(setting))
            except TooMany:
                tables = list(itertools.islice(best_tables(setting), 200))
            for table in tables[:20]:
                found = worst(setting, table)
                self.assertEqual(found.rate, rate)
                self.assertTrue(shows_worst(setting, table, found) and is_best(setting, table))
                self.assertEqual(Stack(Layer(setting, table)).worst().rate, rate)
            self.assertTrue(shows_least(setting, least(setting)))

    def test_no_table_is_better(self):
        draw = random.Random(337)
        for setting in open_settings(some(80)):
            for table in sound_tables(draw, setting, 3):
                found = worst(setting, table).rate
                self.assertTrue(found >= least_rate(setting))
                self.assertIs(is_best(setting, table), found == least_rate(setting))

    def test_it_goes_with_the_prices(self):
        for setting in some(80):
            prices, signs = setting.prices, setting.bars.signs
            rate = least_rate(setting)
            for n in range(1, 10):
                if all(n * prices.price_of(sign) <= 9 for sign in signs):
                    found = least_rate(setting.with_prices(n * prices))
                    self.assertEqual(found, None if rate is None else n * rate)
            heavy = {sign: prices.weight_of(sign) for sign in signs}
            if all(3 * weight <= 9 for weight in heavy.values()):
                told = Prices(signs, {sign: prices.price_of(sign) for sign in signs},
                              {sign: 3 * heavy[sign] for sign in signs})
                found = least_rate(setting.with_prices(told))
                self.assertEqual(None if found is None else 3 * found, rate)

    def test_it_is_the_same_with_exchanged_signs(self):
        for setting in some(60):
            signs = setting.bars.signs
            for row in itertools.permutations(signs):
                table = swapped(setting, row)
                other = setting.changed(table)
                self.assertEqual(least_rate(other), least_rate(setting))
                lost = {"".join(table[sign] for sign in end): n for end, n in rounds(setting).items()}
                self.assertEqual(rounds(other), lost)
                self.assertEqual(size(other, 9), size(setting, 9))
                changed = {tuple(sorted("".join(table[sign] for sign in word) for word in needless(setting)))}
                self.assertEqual({needless(other)}, changed)
            self.assertEqual(setting.changed(swapped(setting, signs)), setting)

    def test_it_never_falls_by_more_bars(self):
        draw = random.Random(347)
        for setting in some(80):
            setting = setting.with_start("")
            words = draw.sample(texts(setting.bars.signs, 4)[1:], 6)
            for word in words:
                try:
                    more = setting.with_bars(setting.bars | Bars(setting.bars.signs, word))
                except TooMany:
                    continue
                self.assertGreaterEqual(number(least_rate(more)), number(least_rate(setting)))
                self.assertTrue(setting.bars <= more.bars)

    def test_it_never_falls_by_dearer_signs_nor_rises_by_heavier_ones(self):
        for setting in some(80):
            prices = setting.prices
            for sign in setting.bars.signs:
                price, weight = prices.price_of(sign), prices.weight_of(sign)
                if price < 9:
                    dear = setting.with_prices(prices.with_price(sign, price + 1))
                    self.assertGreaterEqual(number(least_rate(dear)), number(least_rate(setting)))
                if weight < 9:
                    heavy = setting.with_prices(prices.with_weight(sign, weight + 1))
                    self.assertLessEqual(number(least_rate(heavy)), number(least_rate(setting)))

    def test_it_never_rises_by_more_moves(self):
        for setting in some(80):
            signs = setting.bars.signs
            for move in [Code.plain(signs), Code.chosen(signs, {sign: signs[0] for sign in signs}), Put(signs[-1])]:
                if move not in setting.menu:
                    more = setting.with_menu(setting.menu | Menu(signs, move))
                    self.assertLessEqual(number(least_rate(more)), number(least_rate(setting)))
                    self.assertTrue(set(rounds(more)) <= set(rounds(setting)))

    def test_starts_are_told_alike(self):
        for setting in some(40):
            found = rate_by_starts(setting)
            self.assertEqual(found[setting.start], least_rate(setting))
            self.assertEqual({end for end in found if found[end] is None}, set(rounds(setting)))


class SizeTest(unittest.TestCase):

    def test_sizes_are_at_most_what_a_best_table_pays(self):
        for setting in open_settings(some(50)):
            table = first_best(setting)
            rows = sizes(setting, 5).rows
            for n in range(5 if len(setting.bars.signs) == 2 else 4):
                contents = [content for content in texts(setting.bars.signs, n) if len(content) == n]
                self.assertLessEqual(rows[n][setting.start], max(paid(table, setting, one) for one in contents))

    def test_games_cost_at_least_the_floor(self):
        draw = random.Random(349)
        many = 0
        for setting in open_settings(some(60)):
            foe = Foe(setting)
            for rule in [first_best(setting), Late()] + sound_tables(draw, setting, 2):
                game = foe.play(rule, 25)
                self.assertTrue(shows_game(setting, rule, game))
                self.assertTrue(isinstance(game, Game))
                if setting.bars.behind(setting.start, game.sent) not in rounds(setting):
                    self.assertGreaterEqual(game.price, foe.floor(setting.prices.weigh(game.content)))
                    many += 1
                self.assertEqual((coded(rule, setting, game.content), paid(rule, setting, game.content)),
                                 (game.sent, game.price))
        self.assertGreater(many, 60)


class LineTest(unittest.TestCase):

    def test_stations_send_what_coded_tells(self):
        draw = random.Random(353)
        for setting in open_settings(some(50)):
            for table in [first_best(setting)] + sound_tables(draw, setting, 1):
                content = "".join(draw.choice(setting.bars.signs) for _ in range(40))
                sender, receiver = Sender(setting, table), Receiver(setting, table)
                at = 0
                while at < len(content):
                    piece = content[at:at + draw.randint(1, 7)]
                    receiver.hear(sender.send(piece))
                    at += len(piece)
                text = coded(table, setting, content)
                self.assertEqual((sender.sent, sender.price), (text, paid(table, setting, content)))
                self.assertEqual((receiver.content, receiver.heard, receiver.end), (content, text, sender.end))
                self.assertFalse(text in setting.bars)
                self.assertEqual((decoded(table, setting, text), Stack(Layer(setting, table)).coded(content)),
                                 (content, text))

    def test_logs_tell_tables_back(self):
        draw = random.Random(359)
        for setting in open_settings(some(40)):
            for table in sound_tables(draw, setting, 1):
                contents = draw.sample(texts(setting.bars.signs, 5), 6)
                log = Log(setting, *[(content, coded(table, setting, content)) for content in contents])
                found = told_back(log)
                self.assertTrue(shows_told(log, table) and shows_told(log, found) and isinstance(found, Table))
                for content, text in log:
                    self.assertEqual(coded(found, setting, content), text)

    def test_tables_that_send_alike_compare_alike(self):
        draw = random.Random(367)
        for setting in open_settings(some(40)):
            for table in sound_tables(draw, setting, 1):
                more = table.with_move("7777777", Put("7"))
                self.assertIsNone(same_text(setting, table, more))
                self.assertEqual(compared(setting, table, more).excess, 0)
                best = first_best(setting)
                if not compared(setting, best, table):
                    # Where the excess grows for ever, the other table pays less for these contents alone.
                    self.assertTrue(worst(setting, table).rate >= least_rate(setting))


class WrittenTest(unittest.TestCase):

    def test_what_was_read_again_answers_alike(self):
        draw = random.Random(373)
        for setting in some(40):
            for again in (Setting.read(str(setting)), read_setting(setting_text(setting))):
                self.assertTrue(same(again, setting))
                self.assertEqual((least_rate(again), rounds(again)), (least_rate(setting), rounds(setting)))
                self.assertEqual((least(again), sizes(again, 6)), (least(setting), sizes(setting, 6)))
            for table in sound_tables(draw, setting, 1):
                for again in (Table.read(str(table)), read_table(table_text(table))):
                    self.assertTrue(same(again, table))
                    self.assertEqual(worst(setting, again), worst(setting, table))
                    content = "".join(draw.choice(setting.bars.signs) for _ in range(20))
                    self.assertEqual(coded(again, setting, content), coded(table, setting, content))

    def test_a_desk_answers_as_the_functions(self):
        for setting in open_settings(some(40)):
            desk = Desk()
            self.assertEqual(desk.run(f"setting s {setting}", "best t s"), ["ok", "ok"])
            self.assertTrue(same(desk.setting_of("s"), setting) and same(desk.table_of("t"), first_best(setting)))
            self.assertEqual(desk.run("rate s", "worst s t"), [str(least_rate(setting))] * 2)
            desk.say(f"table v {first_best(setting)}")
            self.assertEqual(desk.run("same s t v", "excess s v t"), ["same", "0"])
            try:
                self.assertEqual(desk("count s"), str(count_best(setting)))
            except TooMany:
                self.assertEqual(desk("count s"), "refused TooMany")
            for sign in setting.bars.signs:
                low, high = price_range(setting, sign)
                self.assertTrue(low <= setting.prices.price_of(sign) <= high)


if __name__ == "__main__":
    unittest.main()
