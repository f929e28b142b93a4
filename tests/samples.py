"""Settings, tables and contents of many kinds, the same ones at each run."""

import random

from flagfree.bars import Bars
from flagfree.menus import Menu
from flagfree.moves import Code, Put
from flagfree.prices import Prices
from flagfree.rules import Table
from flagfree.settings import Setting
from oracles import sends_all, slow_rounds, texts


def moves_of(signs):
    """Some moves of an alphabet."""
    escape = Code.escape(signs, signs[0], {signs[0]: signs[1]})
    chosen = Code.chosen(signs, {sign: signs[-1] for sign in signs})
    return [Code.plain(signs), escape, chosen] + [Put(sign) for sign in signs]


def some_settings(many):
    """Settings of all kinds."""
    draw = random.Random(13)
    rows = []
    while len(rows) < many:
        signs = draw.choice(["01", "01", "012", "az"])
        words = [draw.choice(texts(signs, 4)[1:]) for _ in range(draw.randint(0, 4))]
        bars = Bars(signs, *words)
        moves = draw.sample(moves_of(signs), draw.randint(0, 3 + len(signs)))
        prices = Prices(signs, {sign: draw.randint(1, 9) for sign in signs}, {signs[0]: draw.randint(1, 9)})
        rows.append(Setting(bars, Menu(signs, *moves), prices, draw.choice(bars.ends)))
    return rows


def some_tables(draw, setting, many):
    """Tables that tell moves of the menu at most ends of a setting."""
    rows = []
    for _ in range(many if len(setting.menu) else 0):
        ends = [end for end in setting.bars.ends if draw.random() < 0.9]
        moves = {}
        for end in ends:
            fit = setting.let(end)
            moves[end] = draw.choice(fit if fit and draw.random() < 0.9 else setting.menu.moves)
        rows.append(Table(moves))
    return rows


def some_fixed(draw, setting):
    """A dict from some ends to moves of the menu."""
    if len(setting.menu) == 0:
        return {}
    return {end: draw.choice(setting.menu.moves) for end in setting.bars.ends if draw.random() < 0.3}


def some_code(draw, signs):
    """A code of words of 1 to 3 signs, no one of which begins with another one."""
    words = []
    while len(words) < len(signs):
        word = "".join(draw.choice(signs) for _ in range(draw.choice([1, 1, 2, 2, 3])))
        if any(word.startswith(one) or one.startswith(word) for one in words):
            words = []
        else:
            words.append(word)
    return Code(dict(zip(signs, words)))


def mixed_settings(many, seed=29):
    """Settings with several codes of words of unlike lengths, unlike prices and weights of all signs."""
    draw = random.Random(seed)
    rows = []
    while len(rows) < many:
        signs = draw.choice(["01", "01", "012", "bx"])
        words = ["".join(draw.choice(signs) for _ in range(draw.randint(2, 5))) for _ in range(draw.randint(1, 4))]
        bars = Bars(signs, *words)
        codes = [Code.plain(signs)] if draw.random() < 0.7 else []
        codes += [code for code in [some_code(draw, signs) for _ in range(draw.randint(0, 2))] if code not in codes]
        codes = [code for k, code in enumerate(codes) if code not in codes[:k]]
        puts = [Put(sign) for sign in signs if draw.random() < 0.8]
        told = [{sign: draw.randint(1, 9) for sign in signs} for _ in range(2)]
        prices = Prices(signs, *told) if draw.random() < 0.7 else None
        rows.append(Setting(bars, Menu(signs, *codes, *puts), prices, draw.choice(bars.ends)))
    return rows


def open_settings(settings):
    """Those of some settings whose start is open, told by a plain search."""
    return [setting for setting in settings if setting.start not in slow_rounds(setting)]


def large_setting():
    """A setting with 24 ends, 8 codes and 4 signs, unlike prices and weights."""
    draw = random.Random(31)
    codes = [Code.plain("0123")]
    while len(codes) < 8:
        code = some_code(draw, "0123")
        if code not in codes:
            codes.append(code)
    bars = Bars("0123", "00001000", "11112", "222302", "3330", "120120", "03")
    menu = Menu("0123", *codes, *[Put(sign) for sign in "0123"])
    return Setting(bars, menu, Prices("0123", {"0": 9, "1": 7, "2": 8, "3": 5}, {"0": 7, "1": 9, "2": 5, "3": 8}))


def sound_tables(draw, setting, many):
    """Tables that send all contents, perhaps none; some tell moves at all ends, some at few."""
    lost = slow_rounds(setting)
    rows = []
    for _ in range(6 * many):
        moves = {}
        for end in setting.bars.ends:
            safe = [move for move in setting.let(end)
                    if not any(behind in lost for _, _, behind in setting.outcomes(end, move))]
            codes = [move for move in safe if isinstance(move, Code)]
            if safe:
                moves[end] = draw.choice(codes if codes and draw.random() < 0.7 else safe)
        if sends_all(setting, moves) and len(rows) < many:
            rows.append(Table(moves))
    return rows


def table_pairs(many, seed=71):
    """Settings with two tables each that send all contents, some of them alike."""
    draw = random.Random(seed)
    rows = []
    for setting in open_settings(mixed_settings(many, seed) + some_settings(many)):
        tables = sound_tables(draw, setting, 3)
        if tables:
            rows.append((setting, tables[0], draw.choice(tables)))
            rows.append((setting, tables[-1], tables[0]))
    return rows


def alike_settings(many, seed):
    """Settings with codes that send some signs alike."""
    draw = random.Random(seed)
    rows = []
    while len(rows) < many:
        signs = draw.choice(["01", "012", "012"])
        bars = Bars(signs, *[draw.choice(texts(signs, 4)[1 + len(signs):]) for _ in range(draw.randint(1, 3))])
        words = {sign: [sign] + [one + sign for one in signs] for sign in signs}
        codes = []
        while len(codes) < draw.randint(2, 5):
            told = {sign: draw.choice(words[sign]) for sign in signs}
            unlike = not any(told[one].startswith(told[other]) for one in signs for other in signs if one != other)
            if unlike and Code(told) not in codes:
                codes.append(Code(told))
        rows.append(Setting(bars, Menu(signs, *codes, *[Put(sign) for sign in signs]), None, draw.choice(bars.ends)))
    return rows
