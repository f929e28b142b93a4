import itertools
import random
import unittest
from fractions import Fraction
from unittest.mock import patch

from common import near_dicts, others, refuses, same, values
from flagfree import stacks
from flagfree.bars import Bars
from flagfree.errors import BadContent, BadLayer, BadSent, BadSetting, BadTable, TooMany
from flagfree.menus import Menu
from flagfree.moves import Code, Put
from flagfree.prices import Prices, Rate
from flagfree.rates import Worst, worst
from flagfree.rules import Table
from flagfree.settings import Setting
from flagfree.stacks import Layer, Stack, shows_stack
from oracles import (greatest_rate, is_text, price_of, rate_numbers, sends_all, stack_rows, stack_turn, texts,
                     weight_of)
from samples import mixed_settings, open_settings, some_settings, some_tables, sound_tables

PLAIN = Code.plain("01")
ONES = Layer(Setting(Bars("01", "11")), Table({"": PLAIN, "1": Put("0")}))
ZEROS = Layer(Setting(Bars("01", "00")), Table({"": PLAIN, "0": Put("1")}))
BOTH = Stack(ONES, ZEROS)
FREE = Layer(Setting(Bars("ab")), Table({"": Code.plain("ab")}))


def some_layers(many, seed):
    """Layers of all alphabets."""
    draw = random.Random(seed)
    rows = []
    for setting in open_settings(mixed_settings(many, seed)):
        rows += [Layer(setting, table) for table in sound_tables(draw, setting, 1)]
    return rows


def some_stacks(many, seed=103):
    """Stacks of one, two and three layers."""
    draw = random.Random(seed)
    layers = some_layers(60, seed)
    rows = []
    while len(rows) < many:
        first = draw.choice(layers)
        fits = [layer for layer in layers if layer.setting.bars.signs == first.setting.bars.signs]
        rows.append(Stack(first, *[draw.choice(fits) for _ in range(len(rows) % 3)]))
    return rows


def turning_layer(draw):
    """A layer whose table tells another exchange of four signs at each end."""
    signs = "0123"
    pairs = draw.sample(sorted(texts(signs, 2)[5:]), 8)
    bars = Bars(signs, *[pair + draw.choice(signs) + draw.choice(signs) for pair in pairs])
    codes = [Code(dict(zip(signs, row))) for row in draw.sample(list(itertools.permutations(signs)), 8)]
    setting = Setting(bars, Menu(signs, *codes, *[Put(sign) for sign in signs]))
    moves = {}
    for end in bars.ends:
        fit = setting.let(end)
        moves[end] = draw.choice([move for move in fit if isinstance(move, Code)] or fit)
    return Layer(setting, Table(moves)) if sends_all(setting, moves) else turning_layer(draw)


def turning_stack(seed, many):
    """A stack of which many tuples of ends come."""
    draw = random.Random(seed)
    return Stack(*[turning_layer(draw) for _ in range(many)])


def many_tuples():
    """A stack of which more than 2,000 tuples of ends come."""
    rows = [
        ("01 : 000101 100000 100110 110000 110100 110110 111100 / 01 : code 0 100 1 0 ; code 0 0 1 1 ; "
         "code 0 0 1 10 ; code 0 00 1 111 ; code 0 1 1 0 ; code 0 00 1 11 ; put 0 ; put 1 / 01 : 1 1 / 1 "
         "1 / -",
         "- : code 0 0 1 1 ; 0 : code 0 1 1 0 ; 1 : code 0 0 1 1 ; 00 : code 0 0 1 1 ; 10 : code 0 0 1 1 "
         "; 11 : code 0 0 1 1 ; 000 : code 0 1 1 0 ; 100 : code 0 0 1 1 ; 110 : code 0 0 1 1 ; 111 : code "
         "0 1 1 0 ; 0001 : code 0 0 1 1 ; 1000 : code 0 1 1 0 ; 1001 : code 0 1 1 0 ; 1100 : code 0 0 1 1 "
         "; 1101 : code 0 0 1 1 ; 1111 : code 0 1 1 0 ; 00010 : put 0 ; 10000 : put 1 ; 10011 : put 1 ; "
         "11000 : put 1 ; 11010 : put 1 ; 11011 : put 1 ; 11110 : put 1"),
        ("01 : 010110 011101 011110 100111 101000 110001 110011 / 01 : code 0 0 1 1 ; code 0 00 1 01 ; "
         "code 0 0 1 11 ; code 0 10 1 01 ; code 0 1 1 0 ; code 0 11 1 10 ; put 0 ; put 1 / 01 : 1 1 / 1 1 "
         "/ -",
         "- : code 0 1 1 0 ; 0 : code 0 11 1 10 ; 1 : code 0 0 1 1 ; 01 : code 0 0 1 11 ; 10 : code 0 0 1 "
         "1 ; 11 : code 0 0 1 1 ; 010 : code 0 1 1 0 ; 011 : code 0 1 1 0 ; 100 : code 0 1 1 0 ; 101 : "
         "code 0 0 1 1 ; 110 : code 0 1 1 0 ; 0101 : code 0 1 1 0 ; 0111 : code 0 0 1 1 ; 1001 : code 0 0 "
         "1 1 ; 1010 : code 0 0 1 11 ; 1100 : code 0 1 1 0 ; 01011 : code 0 11 1 10 ; 01110 : code 0 00 1 "
         "01 ; 01111 : code 0 11 1 10 ; 10011 : code 0 00 1 01 ; 10100 : code 0 11 1 10 ; 11000 : code 0 "
         "00 1 01 ; 11001 : code 0 00 1 01"),
        ("01 : 000000 000011 001100 100101 101010 101110 111000 / 01 : code 0 001 1 10 ; code 0 01 1 11 ; "
         "code 0 1 1 0 ; code 0 0 1 1 ; code 0 101 1 111 ; code 0 1 1 00 ; put 0 ; put 1 / 01 : 1 1 / 1 1 "
         "/ -",
         "- : code 0 1 1 0 ; 0 : code 0 0 1 1 ; 1 : code 0 0 1 1 ; 00 : code 0 01 1 11 ; 10 : code 0 0 1 "
         "1 ; 11 : code 0 1 1 0 ; 000 : code 0 0 1 1 ; 001 : code 0 0 1 1 ; 100 : code 0 0 1 1 ; 101 : "
         "code 0 1 1 0 ; 111 : code 0 001 1 10 ; 0000 : code 0 0 1 1 ; 0011 : code 0 1 1 0 ; 1001 : code "
         "0 1 1 0 ; 1010 : code 0 1 1 00 ; 1011 : code 0 1 1 0 ; 1110 : code 0 01 1 11 ; 00000 : put 1 ; "
         "00001 : put 0 ; 00110 : code 0 101 1 111 ; 10010 : put 0 ; 10101 : code 0 101 1 111 ; 10111 : "
         "code 0 101 1 111 ; 11100 : put 1"),
    ]
    return Stack(*[Layer(Setting.read(setting), Table.read(table)) for setting, table in rows])


def told(stack):
    """The layers as pairs of a setting and the moves of its table."""
    return [(layer.setting, dict(layer.table.moves)) for layer in stack]


def plain_gone(stack, content):
    """What the outermost layer sends for a content, and the ends behind it, sign by sign."""
    sent, ends = "", tuple(layer.setting.start for layer in stack)
    for sign in content:
        more, ends = stack_turn(told(stack), ends, sign)
        sent += more
    return sent, ends


class LayerTest(unittest.TestCase):

    def test_attributes(self):
        setting, table = Setting(Bars("01", "11")), Table({"": PLAIN, "1": Put("0"), "7": PLAIN})
        for layer in (Layer(setting, table), Layer(table=table, setting=setting)):
            self.assertEqual((layer.setting, layer.table), (setting, table))

    def test_tables_that_do_not_send_all_contents(self):
        draw = random.Random(107)
        many = [0, 0]
        for setting in some_settings(80) + mixed_settings(80):
            for table in some_tables(draw, setting, 3):
                if sends_all(setting, dict(table.moves)):
                    self.assertEqual(Layer(setting, table).table, table)
                else:
                    refuses(self, BadTable("table"), Layer, setting, table)
                many[sends_all(setting, dict(table.moves))] += 1
        self.assertGreater(min(many), 40)

    def test_by_hand(self):
        pair, both = Setting(Bars("01", "11")), Setting(Bars("01", "00", "11"))
        for moves in ({}, {"": PLAIN}, {"": PLAIN, "1": PLAIN}, {"": PLAIN, "1": Put("1")}, {"": Put("0")}):
            refuses(self, BadTable("table"), Layer, pair, Table(moves))
        refuses(self, BadTable("table"), Layer, both, Table({"": PLAIN, "0": Put("1"), "1": Put("0")}))
        refuses(self, BadTable("table"), Layer, pair.with_menu(Menu("01", PLAIN)), ONES.table)
        refuses(self, BadTable("table"), Layer, pair.with_start("1"), Table({"": PLAIN, "1": PLAIN}))

    def test_errors_in_order(self):
        for value in others(lambda value: isinstance(value, Setting)):
            refuses(self, BadSetting("setting"), Layer, value, None)
        for value in others(lambda value: isinstance(value, Table) and len(value) == 1):
            refuses(self, BadTable("table"), Layer, ONES.setting, value)

    def test_equality(self):
        self.assertEqual(ONES, Layer(Setting(Bars("01", "11")), Table({"1": Put("0"), "": PLAIN})))
        self.assertNotEqual(ONES, Layer(ONES.setting, ONES.table.with_move("7", PLAIN)))
        self.assertNotEqual(ONES, Layer(ONES.setting.with_start("1"), ONES.table))
        for value in values():
            self.assertIs(ONES == value, False)


class StackTest(unittest.TestCase):

    def test_as_a_tuple(self):
        rows = (ONES, ZEROS, ONES)
        stack = Stack(*rows)
        self.assertTrue(type(stack.layers) is tuple and stack.layers == rows)
        self.assertEqual((len(stack), list(stack), bool(stack)), (3, list(rows), True))
        for k in range(-3, 3):
            self.assertIs(stack[k], rows[k])
        for k in (3, -4):
            with self.assertRaises(IndexError):
                stack[k]
        for a in (None, -4, -1, 0, 1, 2, 5):
            for b in (None, -2, 0, 1, 3, 7):
                self.assertTrue(type(stack[a:b]) is tuple and stack[a:b] == rows[a:b])
        self.assertEqual(stack[::-1], rows[::-1])

    def test_sums_and_equality(self):
        self.assertEqual(Stack(ONES) + ZEROS, BOTH)
        self.assertEqual(Stack(ONES) + Stack(ZEROS), BOTH)
        self.assertEqual(BOTH + ONES, Stack(ONES, ZEROS, ONES))
        self.assertEqual(Stack(ONES) + BOTH, Stack(ONES, ONES, ZEROS))
        grown = BOTH
        grown += ONES
        self.assertEqual((len(grown), len(BOTH)), (3, 2))
        self.assertNotEqual(BOTH, Stack(ZEROS, ONES))
        self.assertNotEqual(Stack(ONES), BOTH)
        for value in others(lambda value: isinstance(value, (Layer, Stack))):
            refuses(self, BadLayer("other"), lambda: BOTH + value)
        refuses(self, TooMany("layers", 3), lambda: BOTH + BOTH)
        refuses(self, TooMany("layers", 3), lambda: BOTH + BOTH + FREE)
        refuses(self, BadSetting("signs"), lambda: BOTH + FREE)
        for value in values():
            self.assertIs(BOTH == value, False)

    def test_errors_in_order(self):
        refuses(self, BadLayer(0), Stack)
        for value in others(lambda value: isinstance(value, Layer)):
            for k in range(5):
                refuses(self, BadLayer(k), Stack, *[ONES] * k, value, FREE, None, ONES)
        refuses(self, TooMany("layers", 3), Stack, ONES, ONES, ONES, FREE)
        refuses(self, BadSetting("signs"), Stack, ONES, FREE)
        refuses(self, BadSetting("signs"), Stack, ONES, ONES, FREE)
        refuses(self, BadSetting("signs"), Stack, FREE, ONES, ONES)

    def test_coded_sign_by_sign(self):
        for stack in some_stacks(36):
            for content in texts(stack[0].setting.bars.signs, 4 if stack[0].setting.bars.signs == "012" else 5):
                sent, ends = plain_gone(stack, content)
                self.assertTrue(same(stack.coded(content), sent))
                self.assertTrue(same(stack.paid(content), price_of(stack[-1].setting, sent)))
                self.assertTrue(same(stack.ends_behind(content), ends))
                self.assertTrue(same(stack.decoded(sent), content))

    def test_texts_of_no_content(self):
        many = [0, 0]
        for stack in some_stacks(36, 109):
            signs = stack[0].setting.bars.signs
            sent = {stack.coded(content): content for content in texts(signs, 6 if signs != "012" else 4)}
            for text in texts(signs, 6 if signs != "012" else 4):
                if text in sent:
                    self.assertEqual(stack.decoded(text), sent[text])
                else:
                    refuses(self, BadSent(text), stack.decoded, text)
                many[text in sent] += 1
        self.assertGreater(min(many), 500, str(many))

    def test_by_hand(self):
        self.assertEqual([BOTH.coded("11"), BOTH.paid(content="11"), BOTH.decoded(text="1011")], ["1011", 4, "11"])
        self.assertEqual([BOTH.ends_behind("11"), BOTH.ends_behind("10"), BOTH.ends_behind("")],
                         [("1", ""), ("", "0"), ("", "")])
        refuses(self, BadSent("101"), BOTH.decoded, "101")
        refuses(self, BadSent("00"), BOTH.decoded, "00")
        self.assertEqual(Stack(FREE).coded("abba" * 500), "abba" * 500)
        self.assertEqual(len(BOTH.coded("1" * 2000)), 5998)
        self.assertEqual(BOTH.decoded(BOTH.coded("1" * 2000)), "1" * 2000)

    def test_prices_are_those_of_the_outermost_setting(self):
        dear = Layer(ZEROS.setting.with_prices(Prices("01", {"0": 3, "1": 5})), ZEROS.table)
        self.assertEqual(Stack(ONES, dear).paid("11"), 18)
        self.assertEqual(Stack(dear, ONES).paid("11"), BOTH.paid("11") - 1)

    def test_values(self):
        for value in others(lambda value: is_text(value, "01")):
            refuses(self, BadContent(value), BOTH.coded, value)
            refuses(self, BadContent(value), BOTH.paid, value)
            refuses(self, BadContent(value), BOTH.ends_behind, value)
            refuses(self, BadSent(value), BOTH.decoded, value)


class WorstTest(unittest.TestCase):

    def check_ring(self, stack, found, many):
        begin, ring = found.begin, found.ring
        self.assertTrue(len(begin) <= many and 1 <= len(ring) <= many)
        self.assertEqual(plain_gone(stack, begin)[1], plain_gone(stack, begin + ring)[1])
        price = price_of(stack[-1].setting, plain_gone(stack, begin + ring)[0][len(plain_gone(stack, begin)[0]):])
        self.assertEqual(Fraction(price, weight_of(stack[0].setting, ring)),
                         Fraction(found.rate.price, found.rate.weight))

    def test_by_a_plain_search(self):
        many = 0
        for stack in some_stacks(60):
            rows = stack_rows(told(stack))
            if len(rows) > 14:
                continue
            many += len(stack) > 1
            found = stack.worst()
            self.assertTrue(type(found) is Worst and type(found.rate) is Rate)
            self.assertEqual(Fraction(found.rate.price, found.rate.weight), greatest_rate(rows))
            self.assertTrue(same(found.numbers, rate_numbers(rows, found.rate.price, found.rate.weight)))
            self.check_ring(stack, found, len(rows))
            self.assertEqual(Stack(*stack).worst(), found)
        self.assertGreater(many, 20)

    def test_stacks_with_many_tuples(self):
        greatest = 0
        for stack in some_stacks(20, 113) + [turning_stack(seed, many) for seed in range(3) for many in (2, 3)]:
            rows = stack_rows(told(stack))
            greatest = max(greatest, len(rows))
            found = stack.worst()
            numbers = rate_numbers(rows, found.rate.price, found.rate.weight)
            self.assertTrue(numbers is not None and same(found.numbers, numbers))
            self.check_ring(stack, found, len(rows))
            self.assertIs(shows_stack(stack, found), True)
        self.assertGreater(greatest, 400)

    def test_one_layer(self):
        for layer in some_layers(40, 127):
            found, alone = Stack(layer).worst(), worst(layer.setting, layer.table)
            self.assertEqual(found.rate, alone.rate)
            self.assertEqual(Stack(layer).product(), alone.rate)

    def test_by_hand(self):
        found = BOTH.worst()
        self.assertEqual((found.rate, found.numbers[("", "")], BOTH.product()), (Rate(3), 0, Rate(4)))
        self.assertEqual(Stack(ZEROS, ZEROS).product(), Rate(4))
        self.assertEqual((Stack(FREE).worst().rate, Stack(FREE).worst().numbers), (Rate(1), {("",): 0}))

    def test_too_many_tuples(self):
        stack = many_tuples()
        self.assertEqual(len(stack_rows(told(stack))), 2214)
        refuses(self, TooMany("tuples", 2000), stack.worst)
        refuses(self, TooMany("tuples", 2000), shows_stack, stack, None)
        self.assertEqual(stacks.MOST_TUPLES, 2000)
        stack = turning_stack(0, 3)
        many = len(stack_rows(told(stack)))
        with patch.object(stacks, "MOST_TUPLES", many):
            self.assertEqual(len(stack.worst().numbers), many)
        with patch.object(stacks, "MOST_TUPLES", many - 1):
            refuses(self, TooMany("tuples", many - 1), stack.worst)
            refuses(self, TooMany("tuples", many - 1), shows_stack, stack, None)
        self.assertEqual(stack.decoded(stack.coded("0123" * 20)), "0123" * 20)

    def test_is_matched(self):
        self.assertIs(BOTH.is_matched, True)
        self.assertIs(Stack(FREE).is_matched, True)
        dear = Layer(ONES.setting.with_prices(Prices("01", {"0": 3, "1": 5}, {"0": 7})), ONES.table)
        fits = Layer(ZEROS.setting.with_prices(Prices("01", {"1": 9}, {"0": 3, "1": 5})), ZEROS.table)
        self.assertIs(Stack(dear).is_matched, True)
        self.assertIs(Stack(dear, fits).is_matched, True)
        self.assertIs(Stack(dear, ZEROS).is_matched, False)
        self.assertIs(Stack(fits, dear).is_matched, False)
        self.assertIs(Stack(dear, fits, ZEROS).is_matched, False)
        self.assertIs(Stack(ONES, dear, fits).is_matched, False)
        self.assertIs(Stack(ONES, ZEROS, ONES).is_matched, True)
        half = Layer(ZEROS.setting.with_prices(Prices("01", None, {"0": 3, "1": 4})), ZEROS.table)
        self.assertIs(Stack(dear, half).is_matched, False)

    def test_a_matched_stack_pays_at_most_its_product(self):
        many = 0
        for stack in some_stacks(60, 131):
            layers = list(stack)
            for k in range(1, len(layers)):
                ahead, setting = layers[k - 1].setting.prices, layers[k].setting
                signs = setting.bars.signs
                prices = Prices(signs, {sign: setting.prices.price_of(sign) for sign in signs},
                                {sign: ahead.price_of(sign) for sign in signs})
                layers[k] = Layer(setting.with_prices(prices), layers[k].table)
            matched = Stack(*layers)
            if stack_rows(told(matched), 300) is None:
                continue
            self.assertIs(matched.is_matched, True)
            self.assertTrue(matched.worst().rate <= matched.product())
            many += matched.worst().rate < matched.product()
        self.assertGreater(many, 3)


class ShowsStackTest(unittest.TestCase):

    def is_right(self, stack, rows, value):
        """Whether a Worst is right, by the rows."""
        numbers, rate = value.numbers, value.rate
        if type(rate) is not Rate or type(numbers) is not dict or set(numbers) != set(rows):
            return False
        if any(type(number) is not int or number < 0 for number in numbers.values()):
            return False
        for node in rows:
            for _, price, weight, behind in rows[node]:
                if numbers[node] < rate.weight * price - rate.price * weight + numbers[behind]:
                    return False
        signs = stack[0].setting.bars.signs
        if not is_text(value.begin, signs) or not is_text(value.ring, signs) or value.ring == "":
            return False
        ahead, ends = plain_gone(stack, value.begin)
        sent, behind = plain_gone(stack, value.begin + value.ring)
        price = price_of(stack[-1].setting, sent[len(ahead):])
        return ends == behind and price * rate.weight == rate.price * weight_of(stack[0].setting, value.ring)

    def test_by_the_rows(self):
        draw = random.Random(137)
        many = [0, 0]
        for stack in some_stacks(40, 139):
            rows = stack_rows(told(stack))
            if len(rows) > 20:
                continue
            found = stack.worst()
            rate, begin, ring = found.rate, found.begin, found.ring
            near = near_dicts(found.numbers, [None, (), ("",) * 4, "", ("q",)], [0, 3, 10 ** 35, -1, True, None, "1"])
            tries = [Worst(rate, numbers, begin, ring) for numbers in draw.sample(near, min(len(near), 20))]
            tries.append(Worst(rate, {ends: number + 5 for ends, number in found.numbers.items()}, begin, ring))
            tries += [Worst(other, found.numbers, begin, ring)
                      for other in (rate + 1, Rate(2 * rate.price, 2 * rate.weight + 1), rate.price, None)]
            tries += [Worst(rate, found.numbers, begin + 2 * ring, 3 * ring), Worst(rate, found.numbers, begin, "")]
            for content in draw.sample(texts(stack[0].setting.bars.signs, 3), 6):
                tries += [Worst(rate, found.numbers, content, ring), Worst(rate, found.numbers, begin, content)]
            self.assertIs(shows_stack(stack, found), True)
            for value in tries:
                right = self.is_right(stack, rows, value)
                self.assertIs(shows_stack(stack, value), right)
                many[right is False] += 1
        self.assertGreater(min(many), 60, str(many))

    def test_by_hand(self):
        found = BOTH.worst()
        self.assertIs(shows_stack(value=found, stack=BOTH), True)
        self.assertIs(shows_stack(BOTH, Worst(Rate(3), found.numbers, "1", "1")), True)
        self.assertIs(shows_stack(BOTH, Worst(Rate(3), found.numbers, "1" * 900, "1" * 1900)), True)
        self.assertIs(shows_stack(BOTH, Worst(Rate(3), found.numbers, "", "1")), False)
        self.assertIs(shows_stack(BOTH, Worst(Rate(5, 2), found.numbers, "1", "01")), False)
        self.assertIs(shows_stack(Stack(ZEROS, ONES), found), False)

    def test_values(self):
        found = BOTH.worst()
        rows = stack_rows(told(BOTH))
        for value in values():
            self.assertIs(shows_stack(BOTH, value), False)
            self.assertIs(shows_stack(BOTH, Worst(value, found.numbers, found.begin, found.ring)), False)
            self.assertIs(shows_stack(BOTH, Worst(found.rate, value, found.begin, found.ring)), False)
            for told_so in (Worst(found.rate, found.numbers, value, found.ring),
                            Worst(found.rate, found.numbers, found.begin, value),
                            Worst(found.rate, {**found.numbers, ("", ""): value}, found.begin, found.ring)):
                self.assertIs(shows_stack(BOTH, told_so), self.is_right(BOTH, rows, told_so))

    def test_errors(self):
        for value in others(lambda value: isinstance(value, Stack)):
            refuses(self, BadLayer("stack"), shows_stack, value, None)
        refuses(self, BadLayer("stack"), shows_stack, ONES, BOTH.worst())


if __name__ == "__main__":
    unittest.main()
