"""Plain definitions, against which the program is tested."""

import itertools
from fractions import Fraction

from flagfree.moves import Code, Put

SIGNS = "0123456789abcdefghijklmnopqrstuvwxyz"


def is_alphabet(value):
    return (isinstance(value, str) and 2 <= len(value) <= 4 and set(value) <= set(SIGNS)
            and list(value) == sorted(set(value)))


def is_text(value, signs):
    return isinstance(value, str) and set(value) <= set(signs)


def is_word(value, signs):
    return is_text(value, signs) and 1 <= len(value) <= 8


def is_sign(value):
    return isinstance(value, str) and len(value) == 1 and value in SIGNS


def is_code_word(value, signs=SIGNS):
    return isinstance(value, str) and 1 <= len(value) <= 3 and set(value) <= set(signs)


def alike(one, other):
    """Whether one of two words begins with the other one."""
    return one.startswith(other) or other.startswith(one)


def texts(signs, most):
    """All texts of at most so many signs."""
    return ["".join(row) for n in range(most + 1) for row in itertools.product(signs, repeat=n)]


def least(words):
    """Those of some words that hold no other one."""
    return tuple(sorted(word for word in set(words) if not any(o in word for o in words if o != word)))


def slow_end(text, words):
    """The end of a text by its definition, None if a barred word stands in it."""
    if any(word in text for word in words):
        return None
    for k in range(len(text) + 1):
        if any(word.startswith(text[k:]) and word != text[k:] for word in words):
            return text[k:]
    return ""


# For each kind of texts: whether a word can stand behind others, and whether nothing is missing.

def bars_stands(ahead, word):
    if len(ahead) == 0:
        return is_alphabet(word)
    if len(ahead) == 1:
        return word == ":"
    if len(ahead) == 2:
        return word == "-" or is_word(word, ahead[0])
    if ahead[2] == "-" or not is_word(word, ahead[0]):
        return False
    return word > ahead[-1] and not any(one in word or word in one for one in ahead[2:])


def bars_complete(words):
    return len(words) >= 3


def move_stands(ahead, word):
    if len(ahead) == 0:
        return word in ("put", "code")
    if ahead[0] == "put":
        return len(ahead) == 1 and is_sign(word)
    if len(ahead) % 2 == 1:
        return is_sign(word) and (len(ahead) == 1 or word > ahead[-2])
    return is_code_word(word) and not any(alike(one, word) for one in ahead[2::2])


def move_complete(words):
    return len(words) == 2 if words[:1] == ["put"] else len(words) >= 3 and len(words) % 2 == 1


def parted(words, sign):
    """Words parted at a sign."""
    rows = [[]]
    for word in words:
        if word == sign:
            rows.append([])
        else:
            rows[-1].append(word)
    return rows


def menu_stands(ahead, word, signs=None):
    if len(ahead) == 0:
        return is_alphabet(word) if signs is None else word == signs
    if len(ahead) == 1:
        return word == ":"
    if len(ahead) == 2 and word == "-":
        return True
    if ahead[2:3] == ["-"]:
        return False
    signs = ahead[0]
    rows = parted(ahead[2:], ";")
    last = rows[-1]
    put = rows[-2][1] if len(rows) > 1 and rows[-2][0] == "put" else ""
    if len(last) == 0:
        return word == "put" or word == "code" and put == ""
    if last[0] == "put":
        return word in signs and len(word) == 1 and word > put if len(last) == 1 else word == ";"
    if len(last) == 1 + 2 * len(signs):
        return word == ";"
    if len(last) % 2 == 1:
        return word == signs[len(last) // 2]
    return is_code_word(word, signs) and not any(alike(one, word) for one in last[2::2])


def menu_complete(words):
    if len(words) < 3 or words[2] == "-":
        return len(words) == 3
    last = parted(words[2:], ";")[-1]
    return len(last) == (2 if last[:1] == ["put"] else 1 + 2 * len(words[0]))


def prices_stands(ahead, word, signs=None):
    if len(ahead) == 0:
        return is_alphabet(word) if signs is None else word == signs
    if len(ahead) == 1:
        return word == ":"
    if len(ahead) == 2 + len(ahead[0]):
        return word == "/"
    return len(ahead) < 3 + 2 * len(ahead[0]) and word in list("123456789")


def prices_complete(words):
    return len(words) > 0 and len(words) == 3 + 2 * len(words[0])


def setting_stands(ahead, word):
    if "/" not in ahead:
        return bars_stands(ahead, word) or word == "/" and bars_complete(ahead)
    at = ahead.index("/")
    bars, rest = ahead[:at], ahead[at + 1:]
    if "/" not in rest:
        return menu_stands(rest, word, bars[0]) or word == "/" and menu_complete(rest)
    prices = rest[rest.index("/") + 1:]
    if len(prices) < 3 + 2 * len(bars[0]):
        return prices_stands(prices, word, bars[0])
    if len(prices) == 3 + 2 * len(bars[0]):
        return word == "/"
    ends = {one[:k] for one in bars[2:] for k in range(1, len(one))} | {"-"}
    return len(prices) == 4 + 2 * len(bars[0]) and word in ends


def setting_complete(words):
    return words.count("/") == 4 and words[-1] != "/"


def table_stands(ahead, word):
    if len(ahead) == 0:
        return word == "-" or is_text(word, SIGNS) and 1 <= len(word) <= 7
    rows = parted(ahead, ";")
    last = rows[-1]
    if len(last) == 0:
        end = rows[-2][0].replace("-", "")
        return is_text(word, SIGNS) and 1 <= len(word) <= 7 and (len(word), word) > (len(end), end)
    if len(last) == 1:
        return word == ":"
    if move_stands(last[2:], word):
        return True
    return word == ";" and move_complete(last[2:]) and last[0] != "zzzzzzz"


def table_complete(words):
    return words == ["table"] or move_complete(parted(words, ";")[-1][2:])


# Lost ends, by what can be sent from them.

def told_moves(setting, fixed, end):
    """The moves that count at an end."""
    return setting.menu.moves if fixed is None or end not in fixed else (fixed[end],)


def reached_by_puts(setting, fixed, end):
    """The ends to which rows of fit puts lead, the end itself among them."""
    found = [end]
    for one in found:
        for move in told_moves(setting, fixed, one):
            if isinstance(move, Put):
                behind = setting.outcomes(one, move)[0][2]
                if behind is not None and behind not in found:
                    found.append(behind)
    return found


def sendable(setting, fixed, ends):
    """The ends from which a row of puts and a code come to some ends, whatever the content sign."""
    found = set()
    for end in setting.bars.ends:
        for one in reached_by_puts(setting, fixed, end):
            for move in told_moves(setting, fixed, one):
                if isinstance(move, Code) and all(behind in ends for _, _, behind in setting.outcomes(one, move)):
                    found.add(end)
    return found


def slow_rounds(setting, fixed=None):
    """The least numbers of signs that cannot be sent from an end, whatever they are."""
    found = {}
    ends = set(setting.bars.ends)
    for n in range(1, len(setting.bars.ends) + 2):
        ends = sendable(setting, fixed, ends)
        for end in setting.bars.ends:
            if end not in ends and end not in found:
                found[end] = n
    return found


def is_trap(setting, fixed, trap):
    """Whether a dict is a trap by its definition."""
    for end, turn in trap.items():
        if end not in setting.bars.ends or type(turn) is not int or turn < 1:
            return False
    for end, turn in trap.items():
        for move in told_moves(setting, fixed, end):
            behind = [outcome[2] for outcome in setting.outcomes(end, move)]
            most = turn if isinstance(move, Put) else turn - 1
            if not any(one is None or one in trap and trap[one] <= most for one in behind):
                return False
    return True


# Rates, by the rings of the ends that come, and by all tables.

def outcomes(setting, end, move):
    """The outcomes (sign, price, weight, end behind) of a move at an end."""
    rows = []
    for sign, text in [(None, move.sign)] if isinstance(move, Put) else move.words:
        price = sum(setting.prices.price_of(one) for one in text)
        weight = 0 if sign is None else setting.prices.weight_of(sign)
        rows.append((sign, price, weight, slow_end(end + text, setting.bars.words)))
    return rows


def come_by(setting, moves):
    """The ends that come by some moves, breadth first, and the first one without a fit move, or None."""
    come = [setting.start]
    for end in come:
        if end not in moves or moves[end] not in setting.menu.moves:
            return come, end
        behind = [outcome[3] for outcome in outcomes(setting, end, moves[end])]
        if None in behind:
            return come, end
        come.extend(one for one in dict.fromkeys(behind) if one not in come)
    return come, None


def endless(setting, moves, come):
    """The first of the ends that come from which signs are put in for ever, or None."""
    for first in come:
        end = first
        for _ in come:
            if isinstance(moves[end], Put):
                end = outcomes(setting, end, moves[end])[0][3]
        if isinstance(moves[end], Put):
            return first
    return None


def slow_rings(setting, moves, come):
    """The (price, weight) of all rings without an end that comes twice."""
    found = []

    def go(first, end, price, weight, seen):
        for _, more, heavier, behind in outcomes(setting, end, moves[end]):
            if behind == first:
                found.append((price + more, weight + heavier))
            elif behind not in seen and come.index(behind) > come.index(first):
                go(first, behind, price + more, weight + heavier, seen | {behind})

    for first in come:
        go(first, first, 0, 0, {first})
    return found


def slow_worst(setting, moves):
    """The greatest rate of moves that send all contents, None for others."""
    come, stuck = come_by(setting, moves)
    if stuck is not None or endless(setting, moves, come) is not None:
        return None
    return max(Fraction(price, weight) for price, weight in slow_rings(setting, moves, come))


def least_numbers(setting, moves, come, price, weight):
    """The least numbers from 0 on that keep a rate that is kept, by the rows [7]."""
    numbers = dict.fromkeys(come, 0)
    for _ in range(len(come) + 1):
        numbers = {end: max([0] + [weight * cost - price * heavy + numbers[behind]
                                   for _, cost, heavy, behind in outcomes(setting, end, moves[end])])
                   for end in come}
    return numbers


def all_tables(setting, fixed=None):
    """The moves of all tables, made end by end as best tables are: the least end that has none is told first."""

    def go(moves):
        come = come_of(setting, moves)
        missing = sorted(end for end in come if end not in moves)
        if not missing:
            yield moves
            return
        for move in told_moves(setting, fixed, missing[0]):
            if setting.is_fit(missing[0], move):
                yield from go({**moves, missing[0]: move})

    yield from go({})


def come_of(setting, moves):
    """The ends that come by some fit moves, those at which there is none among them."""
    come = [setting.start]
    for end in come:
        if end in moves:
            come.extend(one for one in {row[3]: 0 for row in outcomes(setting, end, moves[end])} if one not in come)
    return come


def slow_least(setting, fixed=None):
    """The least rate of all tables, None if none sends all contents."""
    rates = [slow_worst(setting, moves) for moves in all_tables(setting, fixed)]
    return min([rate for rate in rates if rate is not None], default=None)


def few_tables(setting, most):
    """Whether a setting has at most so many tables."""
    many = 1
    for end in setting.bars.ends:
        many *= max(1, len(setting.let(end)))
    return many <= most


def are_numbers(setting, numbers):
    return (type(numbers) is dict and setting.start in numbers and all(end in setting.bars.ends for end in numbers)
            and all(type(number) is int and number >= 0 for number in numbers.values()))


def keeps(setting, price, weight, table, numbers, fixed=None):
    """Whether numbers keep a rate for a table [7]."""
    if not are_numbers(setting, numbers):
        return False
    for end in numbers:
        if end not in table or table[end] not in told_moves(setting, fixed, end):
            return False
        for _, cost, heavy, behind in outcomes(setting, end, table[end]):
            if behind not in numbers or numbers[end] < weight * cost - price * heavy + numbers[behind]:
                return False
    return True


def forces(setting, price, weight, against, rounds, fixed=None):
    """Whether numbers, beside a trap, force a rate [7]."""
    if type(rounds) is not dict or not is_trap(setting, fixed, rounds) or not are_numbers(setting, against):
        return False
    for end in against:
        for move in told_moves(setting, fixed, end):
            rows = outcomes(setting, end, move)
            if not any(behind is None or behind in rounds or behind in against
                       and against[end] <= weight * cost - price * heavy + against[behind]
                       for _, cost, heavy, behind in rows):
                return False
    return True


# Sizes, by the definition [8].

def put_ways(setting, end):
    """The pairs (price, end) to which rows of fit puts lead, each end once in a row."""
    found = []

    def go(one, price, seen):
        found.append((price, one))
        for move in setting.menu.moves:
            if isinstance(move, Put):
                _, more, _, behind = outcomes(setting, one, move)[0]
                if behind is not None and behind not in seen:
                    go(behind, price + more, seen | {behind})

    go(end, 0, {end})
    return found


def code_price(setting, end, move, row):
    """The price of a code at an end with the numbers of a row behind it, None if it does not count."""
    told = outcomes(setting, end, move)
    if any(behind not in row for _, _, _, behind in told):
        return None
    return max(price + row[behind] for _, price, _, behind in told)


def slow_rows(setting, many):
    """The rows of 0 to so many signs."""
    ways = {end: put_ways(setting, end) for end in setting.bars.ends}
    codes = [move for move in setting.menu.moves if not isinstance(move, Put)]
    rows = [{end: 0 for end in setting.bars.ends}]
    for _ in range(many):
        coded = {end: [code_price(setting, end, move, rows[-1]) for move in codes] for end in setting.bars.ends}
        row = {}
        for end in setting.bars.ends:
            prices = [price + more for price, one in ways[end] for more in coded[one] if more is not None]
            if prices:
                row[end] = min(prices)
        rows.append(row)
    return rows


def slow_having(setting, ahead, row, end):
    """The moves that have the number of a row at an end, ahead being the row of a sign less."""
    found = []
    for move in setting.menu.moves if end in row else ():
        if isinstance(move, Put):
            _, price, _, behind = outcomes(setting, end, move)[0]
            if behind in row and price + row[behind] == row[end]:
                found.append(move)
        elif code_price(setting, end, move, ahead) == row[end]:
            found.append(move)
    return found


def slow_come(setting):
    """The ends that come by all moves of the menu that complete no word with some outcome."""
    come = [setting.start]
    for end in come:
        for move in setting.menu.moves:
            for _, _, _, behind in outcomes(setting, end, move):
                if behind is not None and behind not in come:
                    come.append(behind)
    return come


def is_round(setting, first, step, gain, lot, rows):
    """Whether these integers and these ends are a round by the rows."""
    later, row = rows[first + step], rows[first]
    come = slow_come(setting)
    if setting.start not in lot or any(end not in come for end in lot):
        return False
    if any(end in later and (end not in row or later[end] - row[end] < gain) for end in come):
        return False
    if any(end not in later or later[end] - row[end] != gain for end in lot):
        return False
    for m in range(first + 1, first + step + 1):
        for end in lot:
            moves = slow_having(setting, rows[m - 1], rows[m], end)
            if not any(all(behind in lot for _, _, _, behind in outcomes(setting, end, move)) for move in moves):
                return False
    return True


def greatest_lot(setting, first, step, rows):
    """The gain and the greatest lot of a round of this first and step, by all sets of ends; None if there is none."""
    later, row, start = rows[first + step], rows[first], setting.start
    if start not in later:
        return None
    gain = later[start] - row[start]
    come = [end for end in slow_come(setting) if end in later and later[end] - row[end] == gain]
    found = set()
    for many in range(1, len(come) + 1):
        for lot in itertools.combinations(come, many):
            if is_round(setting, first, step, gain, lot, rows):
                found |= set(lot)
    return (gain, tuple(sorted(found))) if found else None


# What a table that sends all contents sends, sign by sign.

def price_of(setting, text):
    return sum(setting.prices.price_of(sign) for sign in text)


def weight_of(setting, content):
    return sum(setting.prices.weight_of(sign) for sign in content)


def sends_all(setting, moves):
    """Whether the moves of a table send all contents."""
    come, stuck = come_by(setting, moves)
    return stuck is None and endless(setting, moves, come) is None


def plain_turn(setting, moves, end, sign):
    """What is sent for a content sign from an end on, puts included, and the end behind it."""
    sent = ""
    while isinstance(moves[end], Put):
        sent += moves[end].sign
        end = slow_end(end + moves[end].sign, setting.bars.words)
    word = dict(moves[end].words)[sign]
    return sent + word, slow_end(end + word, setting.bars.words)


def plain_sent(setting, moves, end, content):
    """What is sent for a content from an end on, and the end behind it."""
    sent = ""
    for sign in content:
        more, end = plain_turn(setting, moves, end, sign)
        sent += more
    return sent, end


# Two tables, by the pairs of their ends.

def excess_rows(setting, one, other):
    """The dict from the pairs of ends that come behind contents to the rows (sign, excess, pair behind)."""
    pairs = [(setting.start, setting.start)]
    rows = {}
    for pair in pairs:
        rows[pair] = []
        for sign in setting.bars.signs:
            sent, end = plain_turn(setting, one, pair[0], sign)
            less, behind = plain_turn(setting, other, pair[1], sign)
            rows[pair].append((sign, price_of(setting, sent) - price_of(setting, less), (end, behind)))
            if (end, behind) not in pairs:
                pairs.append((end, behind))
    return rows


def plain_excess(rows, pair, content):
    """The excess of a content from a pair on, and the pair behind it."""
    excess = 0
    for sign in content:
        _, more, pair = rows[pair]["".join(row[0] for row in rows[pair]).index(sign)]
        excess += more
    return excess, pair


def greatest_sums(rows):
    """The least numbers from 0 on that keep to rows, None if they grow for ever."""
    numbers = dict.fromkeys(rows, 0)
    for _ in range(len(rows) + 1):
        further = {pair: max([0] + [more + numbers[behind] for _, more, behind in rows[pair]]) for pair in rows}
        if further == numbers:
            return numbers
        numbers = further
    return None


# Stacks, layer by layer; layers are pairs (setting, moves), the innermost one first.

def stack_turn(layers, ends, sign):
    """What the outermost layer sends for a content sign, and the ends of all layers behind it."""
    text, behind = sign, []
    for (setting, moves), end in zip(layers, ends):
        text, end = plain_sent(setting, moves, end, text)
        behind.append(end)
    return text, tuple(behind)


def stack_rows(layers, most=10 ** 6):
    """The dict from the tuples of ends that come to the rows (sign, price, weight, tuple behind); None if too many."""
    tuples = [tuple(setting.start for setting, _ in layers)]
    rows = {}
    for ends in tuples:
        rows[ends] = []
        for sign in layers[0][0].bars.signs:
            text, behind = stack_turn(layers, ends, sign)
            rows[ends].append((sign, price_of(layers[-1][0], text), weight_of(layers[0][0], sign), behind))
            if behind not in rows and behind not in tuples:
                tuples.append(behind)
        if len(tuples) > most:
            return None
    return rows


def greatest_rate(rows):
    """The greatest rate of a ring of rows, by the sums of walks of up to as many signs as there are nodes."""
    found = Fraction(0)
    for first in rows:
        best = {(first, 0): 0}
        for _ in range(len(rows)):
            further = {}
            for (node, heavy), price in best.items():
                for _, more, weight, behind in rows[node]:
                    key = (behind, heavy + weight)
                    further[key] = max(further.get(key, 0), price + more)
            best = further
            for (node, heavy), price in best.items():
                if node == first:
                    found = max(found, Fraction(price, heavy))
    return found


def rate_numbers(rows, price, weight):
    """The least numbers from 0 on that keep a rate by rows, None if there are none."""
    numbers = dict.fromkeys(rows, 0)
    for _ in range(len(rows) + 1):
        further = {node: max([0] + [weight * cost - price * heavy + numbers[behind]
                                    for _, cost, heavy, behind in rows[node]]) for node in rows}
        if further == numbers:
            return numbers
        numbers = further
    return None


# Logs, gone through from the start again for each table.

def goes_through(setting, moves, pairs):
    """("all", None) if moves send all pairs as they were, ("ask", end) where they lack a move, ("bad", index)."""
    for at, (content, text) in enumerate(pairs):
        sent, end, signs = "", setting.start, 0
        while signs < len(content):
            if end not in moves:
                return "ask", end
            move = moves[end]
            word = move.sign if isinstance(move, Put) else dict(move.words)[content[signs]]
            signs += not isinstance(move, Put)
            sent, end = sent + word, slow_end(end + word, setting.bars.words)
            if not text.startswith(sent):
                return "bad", at
        if sent != text:
            return "bad", at
    return "all", None


def is_fit(setting, end, move):
    words = [move.sign] if isinstance(move, Put) else [word for _, word in move.words]
    return all(slow_end(end + word, setting.bars.words) is not None for word in words)


def slow_told(setting, pairs, moves=None):
    """The moves of all tables that fit, in their order."""
    moves = moves or {}
    why, end = goes_through(setting, moves, pairs)
    if why == "all":
        yield moves
    if why == "ask":
        for move in setting.menu.moves:
            if is_fit(setting, end, move):
                yield from slow_told(setting, pairs, {**moves, end: move})


def slow_tree(setting, pairs, moves=None):
    """The tree for some moves with which no table fits."""
    moves = moves or {}
    why, end = goes_through(setting, moves, pairs)
    if why == "bad":
        return None
    return end, tuple(slow_tree(setting, pairs, {**moves, end: move}) if is_fit(setting, end, move) else None
                      for move in setting.menu.moves)


def is_clash(setting, pairs, tree, moves=None):
    """Whether a value is the tree for some moves with which no table fits."""
    moves = moves or {}
    why, end = goes_through(setting, moves, pairs)
    if why != "ask":
        return why == "bad" and tree is None
    if type(tree) is not tuple or len(tree) != 2 or type(tree[0]) is not str or tree[0] != end:
        return False
    if type(tree[1]) is not tuple or len(tree[1]) != len(setting.menu.moves):
        return False
    return all(is_clash(setting, pairs, branch, {**moves, end: move}) if is_fit(setting, end, move) else branch is None
               for move, branch in zip(setting.menu.moves, tree[1]))
