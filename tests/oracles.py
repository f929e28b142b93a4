"""Plain definitions, against which the program is tested."""

import itertools

from flagfree.moves import Code, Put

SIGNS = "0123456789abcdefghijklmnopqrstuvwxyz"


def is_alphabet(value):
    return (isinstance(value, str) and 2 <= len(value) <= 4 and set(value) <= set(SIGNS)
            and list(value) == sorted(set(value)))


def is_text(value, signs):
    return isinstance(value, str) and set(value) <= set(signs)


def is_word(value, signs):
    return is_text(value, signs) and 1 <= len(value) <= 8


def is_sign(value):
    return isinstance(value, str) and len(value) == 1 and value in SIGNS


def is_code_word(value, signs=SIGNS):
    return isinstance(value, str) and 1 <= len(value) <= 3 and set(value) <= set(signs)


def alike(one, other):
    """Whether one of two words begins with the other one."""
    return one.startswith(other) or other.startswith(one)


def texts(signs, most):
    """All texts of at most so many signs."""
    return ["".join(row) for n in range(most + 1) for row in itertools.product(signs, repeat=n)]


def least(words):
    """Those of some words that hold no other one."""
    return tuple(sorted(word for word in set(words) if not any(o in word for o in words if o != word)))


def slow_end(text, words):
    """The end of a text by its definition, None if a barred word stands in it."""
    if any(word in text for word in words):
        return None
    for k in range(len(text) + 1):
        if any(word.startswith(text[k:]) and word != text[k:] for word in words):
            return text[k:]
    return ""


# For each kind of texts: whether a word can stand behind others, and whether nothing is missing.

def bars_stands(ahead, word):
    if len(ahead) == 0:
        return is_alphabet(word)
    if len(ahead) == 1:
        return word == ":"
    if len(ahead) == 2:
        return word == "-" or is_word(word, ahead[0])
    if ahead[2] == "-" or not is_word(word, ahead[0]):
        return False
    return word > ahead[-1] and not any(one in word or word in one for one in ahead[2:])


def bars_complete(words):
    return len(words) >= 3


def move_stands(ahead, word):
    if len(ahead) == 0:
        return word in ("put", "code")
    if ahead[0] == "put":
        return len(ahead) == 1 and is_sign(word)
    if len(ahead) % 2 == 1:
        return is_sign(word) and (len(ahead) == 1 or word > ahead[-2])
    return is_code_word(word) and not any(alike(one, word) for one in ahead[2::2])


def move_complete(words):
    return len(words) == 2 if words[:1] == ["put"] else len(words) >= 3 and len(words) % 2 == 1


def parted(words, sign):
    """Words parted at a sign."""
    rows = [[]]
    for word in words:
        if word == sign:
            rows.append([])
        else:
            rows[-1].append(word)
    return rows


def menu_stands(ahead, word, signs=None):
    if len(ahead) == 0:
        return is_alphabet(word) if signs is None else word == signs
    if len(ahead) == 1:
        return word == ":"
    if len(ahead) == 2 and word == "-":
        return True
    if ahead[2:3] == ["-"]:
        return False
    signs = ahead[0]
    rows = parted(ahead[2:], ";")
    last = rows[-1]
    put = rows[-2][1] if len(rows) > 1 and rows[-2][0] == "put" else ""
    if len(last) == 0:
        return word == "put" or word == "code" and put == ""
    if last[0] == "put":
        return word in signs and len(word) == 1 and word > put if len(last) == 1 else word == ";"
    if len(last) == 1 + 2 * len(signs):
        return word == ";"
    if len(last) % 2 == 1:
        return word == signs[len(last) // 2]
    return is_code_word(word, signs) and not any(alike(one, word) for one in last[2::2])


def menu_complete(words):
    if len(words) < 3 or words[2] == "-":
        return len(words) == 3
    last = parted(words[2:], ";")[-1]
    return len(last) == (2 if last[:1] == ["put"] else 1 + 2 * len(words[0]))


def prices_stands(ahead, word, signs=None):
    if len(ahead) == 0:
        return is_alphabet(word) if signs is None else word == signs
    if len(ahead) == 1:
        return word == ":"
    if len(ahead) == 2 + len(ahead[0]):
        return word == "/"
    return len(ahead) < 3 + 2 * len(ahead[0]) and word in list("123456789")


def prices_complete(words):
    return len(words) > 0 and len(words) == 3 + 2 * len(words[0])


def setting_stands(ahead, word):
    if "/" not in ahead:
        return bars_stands(ahead, word) or word == "/" and bars_complete(ahead)
    at = ahead.index("/")
    bars, rest = ahead[:at], ahead[at + 1:]
    if "/" not in rest:
        return menu_stands(rest, word, bars[0]) or word == "/" and menu_complete(rest)
    prices = rest[rest.index("/") + 1:]
    if len(prices) < 3 + 2 * len(bars[0]):
        return prices_stands(prices, word, bars[0])
    if len(prices) == 3 + 2 * len(bars[0]):
        return word == "/"
    ends = {one[:k] for one in bars[2:] for k in range(1, len(one))} | {"-"}
    return len(prices) == 4 + 2 * len(bars[0]) and word in ends


def setting_complete(words):
    return words.count("/") == 4 and words[-1] != "/"


def table_stands(ahead, word):
    if len(ahead) == 0:
        return word == "-" or is_text(word, SIGNS) and 1 <= len(word) <= 7
    rows = parted(ahead, ";")
    last = rows[-1]
    if len(last) == 0:
        end = rows[-2][0].replace("-", "")
        return is_text(word, SIGNS) and 1 <= len(word) <= 7 and (len(word), word) > (len(end), end)
    if len(last) == 1:
        return word == ":"
    if move_stands(last[2:], word):
        return True
    return word == ";" and move_complete(last[2:]) and last[0] != "zzzzzzz"


def table_complete(words):
    return words == ["table"] or move_complete(parted(words, ";")[-1][2:])


# Lost ends, by what can be sent from them.

def told_moves(setting, fixed, end):
    """The moves that count at an end."""
    return setting.menu.moves if fixed is None or end not in fixed else (fixed[end],)


def reached_by_puts(setting, fixed, end):
    """The ends to which rows of fit puts lead, the end itself among them."""
    found = [end]
    for one in found:
        for move in told_moves(setting, fixed, one):
            if isinstance(move, Put):
                behind = setting.outcomes(one, move)[0][2]
                if behind is not None and behind not in found:
                    found.append(behind)
    return found


def sendable(setting, fixed, ends):
    """The ends from which a row of puts and a code come to some ends, whatever the content sign."""
    found = set()
    for end in setting.bars.ends:
        for one in reached_by_puts(setting, fixed, end):
            for move in told_moves(setting, fixed, one):
                if isinstance(move, Code) and all(behind in ends for _, _, behind in setting.outcomes(one, move)):
                    found.add(end)
    return found


def slow_rounds(setting, fixed=None):
    """The least numbers of signs that cannot be sent from an end, whatever they are."""
    found = {}
    ends = set(setting.bars.ends)
    for n in range(1, len(setting.bars.ends) + 2):
        ends = sendable(setting, fixed, ends)
        for end in setting.bars.ends:
            if end not in ends and end not in found:
                found[end] = n
    return found
