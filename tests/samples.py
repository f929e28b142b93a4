"""Settings, tables and contents of many kinds, the same ones at each run."""

import random

from flagfree.bars import Bars
from flagfree.menus import Menu
from flagfree.moves import Code, Put
from flagfree.prices import Prices
from flagfree.rules import Table
from flagfree.settings import Setting
from oracles import texts


def moves_of(signs):
    """Some moves of an alphabet."""
    escape = Code.escape(signs, signs[0], {signs[0]: signs[1]})
    chosen = Code.chosen(signs, {sign: signs[-1] for sign in signs})
    return [Code.plain(signs), escape, chosen] + [Put(sign) for sign in signs]


def some_settings(many):
    """Settings of all kinds."""
    draw = random.Random(13)
    rows = []
    while len(rows) < many:
        signs = draw.choice(["01", "01", "012", "az"])
        words = [draw.choice(texts(signs, 4)[1:]) for _ in range(draw.randint(0, 4))]
        bars = Bars(signs, *words)
        moves = draw.sample(moves_of(signs), draw.randint(0, 3 + len(signs)))
        prices = Prices(signs, {sign: draw.randint(1, 9) for sign in signs}, {signs[0]: draw.randint(1, 9)})
        rows.append(Setting(bars, Menu(signs, *moves), prices, draw.choice(bars.ends)))
    return rows


def some_tables(draw, setting, many):
    """Tables that tell moves of the menu at most ends of a setting."""
    rows = []
    for _ in range(many if len(setting.menu) else 0):
        ends = [end for end in setting.bars.ends if draw.random() < 0.9]
        moves = {}
        for end in ends:
            fit = setting.let(end)
            moves[end] = draw.choice(fit if fit and draw.random() < 0.9 else setting.menu.moves)
        rows.append(Table(moves))
    return rows
