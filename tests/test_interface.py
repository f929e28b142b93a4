"""The names of the interface: each one is defined in its own file, each method in the body of its own class."""

import importlib
import inspect
import unittest

from common import FIELDS

NAMES = {
    "errors": ["FlagError", *FIELDS],
    "bars": ["Bars"], "moves": ["Move", "Put", "Code"], "menus": ["Menu"], "prices": ["Prices", "Rate"],
    "settings": ["Setting"], "rules": ["Rule", "Table", "Late", "By", "Joined"],
    "coding": ["Step", "steps", "coded", "paid", "decoded", "is_coding"],
    "traps": ["Open", "Trap", "rounds", "open_ends", "judged"], "look_traps": ["shows_open", "shows_trap"],
    "rates": ["Worst", "worst", "bound", "content_for"], "look_rates": ["shows_numbers", "shows_ring", "shows_worst"],
    "least": ["Least", "least", "least_rate", "can_keep"],
    "look_least": ["shows_keeps", "shows_forces", "shows_least"],
    "best": ["best_tables", "first_best", "count_best", "is_best", "nearest_best", "least_moves", "needless_moves",
             "fewest_moves"],
    "sizes": ["Sizes", "Round", "sizes", "round_of", "size", "best_moves", "reply"],
    "look_sizes": ["shows_sizes", "shows_round"], "foe": ["Game", "Caught", "Foe", "shows_game"],
    "compared": ["Never", "Behind", "compared", "greatest_excess", "same_price", "same_text"],
    "look_compared": ["shows_compared"], "stacks": ["Layer", "Stack", "shows_stack"],
    "flags": ["Chosen", "needless", "without_needless", "can_join", "rate_by_starts", "cheapest", "flags_of",
              "price_range", "weight_range"],
    "logs": ["Log", "Clash", "told_tables", "told_back", "first_clash", "sure_moves", "guesses", "asks", "shows_told",
             "shows_clash"],
    "links": ["Station", "Sender", "Receiver"], "texts": ["setting_text", "table_text"],
    "reader": ["read_setting", "read_table"], "desk": ["Desk"],
}

METHODS = {
    "bars.Bars": "of read end_of behind changed __len__ __iter__ __contains__ __or__ __and__ __sub__ __le__ __lt__ "
                 "__invert__ __eq__ __str__",
    "moves.Put": "is_of changed __eq__ __str__",
    "moves.Code": "plain escape chosen is_of changed __getitem__ __contains__ __len__ __iter__ __eq__ __str__",
    "moves.Move": "read is_of changed",
    "menus.Menu": "of plain read place changed __len__ __iter__ __contains__ __or__ __and__ __sub__ __le__ __lt__ "
                  "__eq__ __str__",
    "prices.Prices": "price_of weight_of cost weigh with_price with_weight changed read __mul__ __rmul__ __eq__ __str__",
    "prices.Rate": "read __lt__ __le__ __gt__ __ge__ __add__ __sub__ __mul__ __radd__ __rsub__ __rmul__ __floordiv__ "
                   "__eq__ __bool__ __str__",
    "settings.Setting": "outcomes is_fit let with_bars with_menu with_prices with_start changed read __eq__ __str__",
    "rules.Rule": "__call__ __or__",
    "rules.Table": "with_move reached read __call__ __or__ __getitem__ __contains__ __len__ __iter__ __eq__ __str__",
    "rules.Late": "__call__ __or__ __eq__ __str__", "rules.By": "__call__ __or__ __eq__ __str__",
    "rules.Joined": "__call__ __or__ __eq__ __str__", "foe.Foe": "next_sign walk play floor",
    "stacks.Layer": "__eq__",
    "stacks.Stack": "coded paid decoded ends_behind worst product is_matched __len__ __iter__ __getitem__ __add__ __eq__",
    "logs.Log": "with_pair __len__ __iter__ __contains__ __getitem__ __or__ __eq__",
    "links.Station": "way use undo trial tried attempt twin __len__ __iter__ __eq__",
    "links.Sender": "send cost", "links.Receiver": "hear amid",
    "desk.Desk": "say run setting_of table_of names __call__ __len__",
}


def made_in(name):
    return importlib.import_module("flagfree." + name)


class InterfaceTest(unittest.TestCase):

    def test_each_name_is_defined_in_its_file(self):
        for module, names in NAMES.items():
            for name in names:
                told = getattr(made_in(module), name)
                self.assertTrue(inspect.isclass(told) or inspect.isfunction(told), name)
                self.assertEqual((told.__module__, told.__name__), ("flagfree." + module, name))

    def test_each_method_is_defined_in_its_class(self):
        for name, methods in METHODS.items():
            module, told = name.split(".")
            own = vars(getattr(made_in(module), told))
            for method in methods.split():
                self.assertIn(method, own, name)

    def test_properties(self):
        for name, told, has_setter in (("links.Station", "way", True), ("links.Receiver", "amid", False),
                                       ("stacks.Stack", "is_matched", False), ("desk.Desk", "names", False)):
            module, kind = name.split(".")
            found = vars(getattr(made_in(module), kind))[told]
            self.assertIsInstance(found, property)
            self.assertEqual(found.fset is not None, has_setter)

    def test_stations(self):
        links = made_in("links")
        self.assertTrue(issubclass(links.Sender, links.Station) and issubclass(links.Receiver, links.Station))


if __name__ == "__main__":
    unittest.main()
