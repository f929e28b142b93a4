"""What the tests share: values of all kinds, and how errors and kinds are compared."""

from flagfree import errors
from flagfree.bars import Bars
from flagfree.coding import Step
from flagfree.compared import Behind, Never
from flagfree.desk import Desk
from flagfree.flags import Chosen
from flagfree.foe import Caught, Foe, Game
from flagfree.least import Least
from flagfree.links import Receiver, Sender
from flagfree.logs import Clash, Log
from flagfree.menus import Menu
from flagfree.moves import Code, Put
from flagfree.prices import Prices, Rate
from flagfree.rates import Worst
from flagfree.rules import By, Late, Table
from flagfree.settings import Setting
from flagfree.sizes import Round, Sizes
from flagfree.stacks import Layer, Stack
from flagfree.traps import Open, Trap

FIELDS = {
    "BadSigns": ("value",), "BadWord": ("value",), "BadBars": ("part",), "BadSign": ("value",),
    "BadText": ("line", "word"), "BadSent": ("value",), "BadEnd": ("value",), "BadMove": ("part",),
    "BadMenu": ("part",), "BadPrice": ("value",), "BadSetting": ("part",), "BadRate": ("part",),
    "BadRule": ("part",), "BadTable": ("part",), "BadContent": ("value",), "BadNumber": ("value",),
    "BadLog": ("part",), "BadLayer": ("part",), "BadLink": ("part",), "BadLine": ("word",),
    "NoEnd": ("end",), "TooMany": ("what", "most"), "NoWay": ("end",), "NoRound": ("most",),
    "Stuck": ("end",), "Refused": ("at",), "NoChange": (),
}


FREE = Setting(Bars("01"))
FREE_TABLE = Table({"": Code({"0": "0", "1": "1"})})


def nested(depth):
    """A list nested so deep."""
    value = "0"
    for _ in range(depth):
        value = [value]
    return value


def values():
    """Values of all kinds."""
    return [
        None, True, False, 0, 1, -1, 2, 9, 10, 10 ** 30 - 1, 10 ** 40 - 1, -10 ** 39,
        "", "0", "1", "01", "10", "00", "011", "0123", "01234", "ab", "a", "z", "A", "ax", "2", "012", "a1", "1a", "-",
        " ", ":", ";", "/", "0 1", "0\n", "\n", "put 0", "code 0 0 1 1", "01 : 11", "x" * 2000, "0" * 2000, "~!()",
        (), ("0",), ("0", "1"), (None,), (1, 2), [], ["0"], ["0", "1"], [None], [[]], nested(8), [0] * 1999,
        {}, {"0": "1"}, {"0": "1", "1": "0"}, {"0": "0", "1": "1"}, {1: 2}, {None: None}, {"": 1}, {"0": 1},
        {"0": True, "1": 1}, {("0", "1"): []}, {True: "0"}, len, lambda sent, setting: None,
        Bars("01", "11"), Bars("ab"), Put("0"), Put("z"), Code({"0": "0", "1": "1"}), Code({"a": "aa"}), Menu("01"),
        Menu("ab", Put("a")), Prices("01"), Prices("ab"), Rate(0), Rate(6, 5), Setting(Bars("01", "11")),
        Setting(Bars("ab")), Table({}), Table({"": Put("0")}), Late(), By(len), Late() | By(len), Open({"": 1}),
        Trap({"": 1}), Step(Put("0"), None, "0", 1), errors.BadSign("0"), errors.NoChange(),
        Worst(Rate(2), {"": 0}, "", "0"), Least(Rate(2), Table({}), {"": 0}, {"": 0}, {}), Sizes(({"": 0},)),
        Round(0, 1, 1, ("",)), Game("", "", 0), Caught("1", "1", "word"), Foe(Setting(Bars("01", "11"))),
        Never(0, {("", ""): 0}, ""), Behind("", "1"), Layer(FREE, FREE_TABLE), Stack(Layer(FREE, FREE_TABLE)),
        Sender(FREE, FREE_TABLE), Receiver(FREE, FREE_TABLE), Sender(FREE, FREE_TABLE).trial(),
        Chosen(("0",), Rate(1)), Clash(None), Clash(("", ())), Log(FREE), Log(FREE, ("0", "0")), Desk(),
    ]


def others(fits):
    """The values of all kinds that do not fit."""
    return [value for value in values() if not fits(value)]


def is_integer(value):
    return type(value) is int


def same(one, other):
    """Whether two values are equal, and of the same kinds throughout."""
    if one is other:
        return True
    if type(one) is not type(other):
        return False
    if isinstance(one, (list, tuple)):
        return len(one) == len(other) and all(same(a, b) for a, b in zip(one, other))
    if isinstance(one, dict):
        return len(one) == len(other) and all(key in other and same(one[key], other[key]) for key in one)
    return one == other


def same_error(one, other):
    """Whether two errors are of one class and keep the same."""
    names = FIELDS[type(other).__name__]
    return type(one) is type(other) and all(same(getattr(one, name), getattr(other, name)) for name in names)


def told(error):
    """An error as a text."""
    if not isinstance(error, errors.FlagError):
        return repr(error)
    name = type(error).__name__
    return f"{name}{tuple(getattr(error, field) for field in FIELDS[name])!r}"


def refuses(test, expected, work, *args, **more):
    """See that a call raises just this error, which is returned."""
    try:
        result = work(*args, **more)
    except Exception as error:
        if not isinstance(error, errors.FlagError):
            raise
        if not same_error(error, expected):
            test.fail(f"{told(expected)} expected, {told(error)} raised")
        return error
    return test.fail(f"{told(expected)} expected, {str(result)!r} returned")


def accepts(test, result, work, *args, **more):
    """See that a call returns just this."""
    found = work(*args, **more)
    test.assertTrue(same(found, result), f"{result!r} expected, {found!r} returned")


def near_dicts(right, keys, worths):
    """Dicts near to one: with a key left out, with another worth, with one key more."""
    rows = [{}]
    for key in right:
        rows.append({one: right[one] for one in right if one != key})
        rows.extend({**right, key: worth} for worth in worths)
        if type(right[key]) is int:
            rows.extend({**right, key: right[key] + more} for more in (-2, -1, 1, 2, 100, 10 ** 35))
            rows.extend([{**right, key: bool(right[key])}, {**right, key: str(right[key])}])
    for key in keys:
        if key not in right:
            rows.extend({**right, key: worth} for worth in worths)
    return rows


def check_paper(test, paper, names, is_true=True):
    """See that a class makes papers of any values, which compare as Python compares what they keep."""
    for value in values():
        for k, name in enumerate(names):
            kept = list(range(len(names)))
            kept[k] = value
            for made in (paper(*kept), paper(**dict(zip(names, kept)))):
                test.assertTrue(all(same(getattr(made, names[j]), kept[j]) for j in range(len(names))))
                test.assertIs(bool(made), is_true)
                test.assertIs(made == paper(*kept), True)
                test.assertIs(made == paper(*range(len(names))), value == k)
                test.assertIs(made != paper(*range(len(names))), value != k)
        test.assertIs(paper(*range(len(names))) == value, False)


def first_bad(words, stands, complete):
    """The index of the first word that cannot stand, the number of the words if one is missing, None if all is right.

    stands(ahead, word) tells whether a word can stand behind others, complete(words) whether nothing is missing.
    """
    for k in range(len(words)):
        if not stands(words[:k], words[k]):
            return k
    return None if complete(words) else len(words)


def spoilt(words, more):
    """Rows of words near to these: with one left out, put in, exchanged, doubled, and cut off."""
    rows = [words]
    for k in range(len(words) + 1):
        rows.append(words[:k])
        rows.append(words[:k] + words[k + 1:])
        rows.append(words[:k] + words[k:k + 1] + words[k:])
        for word in more:
            rows.append(words[:k] + [word] + words[k:])
            rows.append(words[:k] + [word] + words[k + 1:])
    for k in range(len(words) - 1):
        rows.append(words[:k] + [words[k + 1], words[k]] + words[k + 2:])
    return rows


def check_read(test, read, words, more, stands, complete):
    """Read a right text and those near to it; those that all words can stand in may be refused by the class."""
    for row in spoilt(words, more):
        text = " ".join(row)
        bad = first_bad(text.split(" "), stands, complete)
        if bad is not None:
            refuses(test, errors.BadText(0, bad), read, text)
            continue
        try:
            found = read(text)
        except errors.BadText as error:
            test.fail(f"{text!r} can be read, {told(error)} raised")
        except errors.FlagError:
            continue
        test.assertEqual(str(found), text)


def check_reads_strings_alone(test, read):
    """See that what is no string is refused as word 0."""
    for value in values():
        if not isinstance(value, str):
            refuses(test, errors.BadText(0, 0), read, value)
