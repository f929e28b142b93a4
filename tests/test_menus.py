import random
import unittest

from common import check_read, check_reads_strings_alone, others, refuses, same, values
from flagfree.errors import BadMenu, BadMove, BadSigns, BadText, TooMany
from flagfree.menus import Menu
from flagfree.moves import Code, Put
from oracles import is_alphabet, menu_complete, menu_stands

PLAIN = Code.plain("01")
TURNED = Code({"0": "1", "1": "0"})
LONG = Code({"0": "00", "1": "11"})
CODES = [Code({"0": one, "1": other}) for one in ("0", "00", "01", "001") for other in ("1", "10", "110")]


def is_move_of(value, signs):
    return isinstance(value, (Put, Code)) and value.is_of(signs)


def some_menus(many):
    """Menus of 01, and the moves that they are made of."""
    draw = random.Random(11)
    rows = []
    for _ in range(many):
        moves = draw.sample(CODES[:6] + [TURNED, Put("0"), Put("1")], draw.randint(0, 8))
        rows.append((moves, Menu("01", *moves)))
    return rows


class MenuTest(unittest.TestCase):

    def test_attributes(self):
        menu = Menu("01", Put("1"), TURNED, Put("0"), PLAIN)
        self.assertEqual(menu.signs, "01")
        self.assertTrue(same(menu.codes, (TURNED, PLAIN)))
        self.assertTrue(same(menu.puts, (Put("0"), Put("1"))))
        self.assertTrue(same(menu.moves, (TURNED, PLAIN, Put("0"), Put("1"))))
        self.assertEqual((len(menu), bool(menu)), (4, True))
        self.assertTrue(same(list(menu), [TURNED, PLAIN, Put("0"), Put("1")]))

    def test_order_of_any_moves(self):
        for moves, menu in some_menus(200):
            codes = tuple(move for move in moves if isinstance(move, Code))
            puts = tuple(sorted((move for move in moves if isinstance(move, Put)), key=lambda put: put.sign))
            self.assertTrue(same((menu.codes, menu.puts, menu.moves), (codes, puts, codes + puts)))

    def test_without_moves(self):
        menu = Menu("01")
        self.assertEqual((menu.codes, menu.puts, menu.moves), ((), (), ()))
        self.assertEqual((len(menu), bool(menu), list(menu), str(menu)), (0, False, [], "01 : -"))

    def test_by_name(self):
        self.assertEqual(Menu(signs="01"), Menu.of(moves=(), signs="01"))
        self.assertEqual(Menu.plain(signs="01"), Menu.read(text="01 : code 0 0 1 1 ; put 0 ; put 1"))
        menu = Menu.plain("01")
        self.assertEqual(menu.place(move=Put("1")), 2)
        self.assertEqual(menu.changed(table={"0": "1", "1": "0"}), menu)

    def test_bad_signs(self):
        for value in others(is_alphabet):
            refuses(self, BadSigns(value), Menu, value)
            refuses(self, BadSigns(value), Menu, value, 7)
            refuses(self, BadSigns(value), Menu.of, value, 7)
            refuses(self, BadSigns(value), Menu.plain, value)

    def test_bad_moves(self):
        for value in others(lambda value: is_move_of(value, "01")):
            refuses(self, BadMenu(0), Menu, "01", value)
            refuses(self, BadMenu(2), Menu, "01", Put("0"), PLAIN, value, 7)
            refuses(self, BadMenu(1), Menu.of, "01", [Put("0"), value, Put("0")])
        refuses(self, BadMenu(1), Menu, "01", Put("0"), Put("2"))
        refuses(self, BadMenu(0), Menu, "012", PLAIN)
        refuses(self, BadMenu(0), Menu, "01", Code({"0": "0", "1": "12"}))
        refuses(self, BadMenu(0), Menu, "01", Code({"0": "0"}))

    def test_moves_twice(self):
        refuses(self, BadMenu(1), Menu, "01", Put("0"), Put("0"))
        refuses(self, BadMenu(3), Menu, "01", PLAIN, Put("0"), TURNED, Code({"1": "1", "0": "0"}))
        refuses(self, BadMenu(2), Menu, "01", PLAIN, Put("0"), Put("0"), PLAIN)
        refuses(self, BadMenu(1), Menu, "01", PLAIN, 7, PLAIN)

    def test_most_codes(self):
        self.assertEqual(len(set(map(str, CODES))), 12)
        self.assertEqual(len(Menu("01", *CODES[:8], Put("0"), Put("1"))), 10)
        refuses(self, TooMany("codes", 8), Menu, "01", *CODES[:9])
        refuses(self, TooMany("codes", 8), Menu.of, "01", [Put("0"), *CODES[:9]])
        refuses(self, BadMenu(9), Menu, "01", *CODES[:9], CODES[0])
        refuses(self, BadMenu(10), Menu, "01", *CODES[:10], None)

    def test_of(self):
        for moves in ([], (), [PLAIN, Put("1")], (Put("1"), Put("0"))):
            self.assertEqual(Menu.of("01", moves), Menu("01", *moves))
        for value in others(lambda value: isinstance(value, (list, tuple))):
            refuses(self, BadMenu("moves"), Menu.of, "01", value)

    def test_later_changes_of_the_moves(self):
        moves = [PLAIN, Put("0")]
        menu = Menu.of("01", moves)
        moves[0] = TURNED
        moves.append(Put("1"))
        self.assertEqual(menu, Menu("01", PLAIN, Put("0")))

    def test_plain(self):
        self.assertTrue(same(Menu.plain("0az").moves, (Code.plain("0az"), Put("0"), Put("a"), Put("z"))))

    def test_in_and_place(self):
        menu = Menu("01", PLAIN, LONG, Put("1"))
        for value in values():
            self.assertIs(value in menu, isinstance(value, Code) and value == PLAIN)
        for value in others(lambda value: isinstance(value, Code) and value == PLAIN):
            refuses(self, BadMove("menu"), menu.place, value)
        for at, move in enumerate(menu.moves):
            self.assertIs(move in menu, True)
            self.assertTrue(same(menu.place(move), at))
        self.assertEqual(menu.place(Code({"1": "11", "0": "00"})), 1)
        self.assertIs(Put("0") in menu, False)
        refuses(self, BadMove("menu"), menu.place, TURNED)

    def test_equality(self):
        self.assertEqual(Menu("01", PLAIN, Put("1"), Put("0")), Menu("01", Put("0"), PLAIN, Put("1")))
        self.assertNotEqual(Menu("01", PLAIN, TURNED), Menu("01", TURNED, PLAIN))
        self.assertNotEqual(Menu("01", Put("0")), Menu("012", Put("0")))
        self.assertNotEqual(Menu("01", Put("0")), Menu("01", Put("1")))
        self.assertNotEqual(Menu("01"), Menu("01", Put("1")))
        for value in values():
            self.assertIs(Menu("01", LONG) == value, False)
        self.assertIs(Menu("01") != Menu("01"), False)

    def test_either_both_less(self):
        rows = some_menus(40)
        for _, one in rows:
            for _, other in rows:
                more = [move for move in other.moves if move not in one.moves]
                codes = [move for move in list(one.moves) + more if isinstance(move, Code)]
                if len(codes) > 8:
                    refuses(self, TooMany("codes", 8), lambda: one | other)
                else:
                    self.assertEqual(one | other, Menu("01", *one.moves, *more))
                    self.assertTrue(same((one | other).codes, tuple(codes)))
                both = [move for move in one.moves if move in other.moves]
                self.assertTrue(same((one & other).moves, tuple(both)))
                self.assertTrue(same((one - other).moves, tuple(move for move in one.moves if move not in both)))
                self.assertIs(one <= other, len(both) == len(one))
                self.assertIs(one < other, len(both) == len(one) < len(other))

    def test_either_by_hand(self):
        one, other = Menu("01", TURNED, Put("1")), Menu("01", PLAIN, TURNED, Put("0"))
        self.assertTrue(same((one | other).moves, (TURNED, PLAIN, Put("0"), Put("1"))))
        self.assertTrue(same((other | one).moves, (PLAIN, TURNED, Put("0"), Put("1"))))
        refuses(self, TooMany("codes", 8), lambda: Menu("01", *CODES[:5]) | Menu("01", *CODES[4:9]))
        self.assertEqual(len(Menu("01", *CODES[:5]) | Menu("01", *CODES[4:8])), 8)

    def test_order_means_nothing_for_less(self):
        one, other = Menu("01", PLAIN, TURNED), Menu("01", TURNED, PLAIN)
        self.assertIs(one <= other, True)
        self.assertIs(one < other, False)
        self.assertIs(Menu("01") < other, True)

    def test_in_place(self):
        menu = first = Menu("01", PLAIN)
        menu |= Menu("01", Put("1"))
        self.assertEqual(menu, Menu("01", PLAIN, Put("1")))
        menu -= Menu("01", PLAIN)
        self.assertEqual(menu, Menu("01", Put("1")))
        menu &= Menu("01", Put("0"))
        self.assertEqual(menu, Menu("01"))
        self.assertEqual(first, Menu("01", PLAIN))

    def test_bad_other(self):
        menu = Menu("01", PLAIN)
        for value in others(lambda value: isinstance(value, Menu) and value.signs == "01"):
            refuses(self, BadMenu("other"), lambda: menu | value)
            refuses(self, BadMenu("other"), lambda: menu & value)
            refuses(self, BadMenu("other"), lambda: menu - value)
            refuses(self, BadMenu("other"), lambda: menu <= value)
            refuses(self, BadMenu("other"), lambda: menu < value)

    def test_changed(self):
        menu = Menu("012", Code({"0": "0", "1": "10", "2": "2"}), Code.plain("012"), Put("0"), Put("2"))
        found = menu.changed({"0": "2", "1": "0", "2": "1"})
        self.assertTrue(same(found.moves,
                             (Code({"2": "2", "0": "02", "1": "1"}), Code.plain("012"), Put("1"), Put("2"))))
        fits = ({"0": "1", "1": "0"}, {"0": "0", "1": "1"})
        for value in others(lambda value: value in fits):
            refuses(self, BadMenu("table"), Menu.plain("01").changed, value)
        for value in ({"0": "1", "1": "1"}, {"0": "1"}, {"0": "1", "1": "0", "2": "2"}, {"0": "a", "1": "b"},
                      {"0": "01", "1": "0"}, {"0": 0, "1": 1}, {0: "0", 1: "1"}, {"0": ["1"], "1": "0"}):
            refuses(self, BadMenu("table"), Menu("01").changed, value)

    def test_str(self):
        menu = Menu("01", Put("1"), LONG, PLAIN, Put("0"))
        self.assertEqual(str(menu), "01 : code 0 00 1 11 ; code 0 0 1 1 ; put 0 ; put 1")
        self.assertEqual(str(Menu("ab", Put("b"))), "ab : put b")


class ReadTest(unittest.TestCase):

    def test_back_and_forth(self):
        for _, menu in some_menus(100):
            found = Menu.read(str(menu))
            self.assertTrue(same(found, menu))

    def test_spoilt_texts(self):
        more = ["01", "012", ":", "-", ";", "put", "code", "0", "1", "2", "00", "000", "0000", "", "/", "0\n", "a"]
        for text in ("01 : code 0 0 1 1 ; put 0 ; put 1", "01 : -", "01 : put 1", "ab : code a aa b ab ; code a a b b",
                     "012 : code 0 0 1 10 2 2 ; put 0 ; put 2", "01 : code 0 01 1 1"):
            check_read(self, Menu.read, text.split(" "), more, menu_stands, menu_complete)

    def test_by_hand(self):
        for text, word in (("", 0), ("01", 1), ("01 :", 2), ("01 : put", 3), ("01 : put 2", 3), ("01 : put 0 ;", 5),
                           ("01 : put 1 ;", 5), ("01 : put 1 ; put", 6), ("01 : put 1 ; put 0", 6),
                           ("01 : put 0 ; code", 5),
                           ("01 : put 1 ; put 1", 6), ("01 : code 0 0", 5), ("01 : code 1 1", 3),
                           ("01 : code 0 0 1 0", 6),
                           ("01 : code 0 0 2 1", 5), ("01 : code 0 2", 4), ("01 : code 0 0 1 1 ;", 8), ("01 : - ;", 3),
                           ("01 : code 0 0 1 1 put 0", 7), ("01 : put 0 put 1", 4), ("01 : ;", 2),
                           ("01 : put 0 ; -", 5),
                           ("01 : put 0 ", 4), ("10 : -", 0), ("01 : code 0 0 1 1 2 2", 7)):
            refuses(self, BadText(0, word), Menu.read, text)

    def test_equal_codes_can_stand(self):
        refuses(self, BadMenu(1), Menu.read, "01 : code 0 0 1 1 ; code 0 0 1 1 ; put 0")
        refuses(self, BadMenu(2), Menu.read, "01 : code 0 0 1 1 ; code 0 1 1 0 ; code 0 1 1 0")
        refuses(self, BadText(0, 18), Menu.read, "01 : code 0 0 1 1 ; code 0 0 1 1 ; put 0 ; put 0")

    def test_nine_codes_can_stand(self):
        text = "01 : " + " ; ".join(str(code) for code in CODES[:9])
        refuses(self, TooMany("codes", 8), Menu.read, text)
        refuses(self, BadText(0, len(text.split(" ")) + 1), Menu.read, text + " ;")
        refuses(self, BadMenu(9), Menu.read, text + " ; " + str(CODES[0]))
        self.assertEqual(len(Menu.read("01 : " + " ; ".join(str(code) for code in CODES[:8]))), 8)

    def test_other_values(self):
        check_reads_strings_alone(self, Menu.read)


if __name__ == "__main__":
    unittest.main()
