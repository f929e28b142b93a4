"""The desk: settings and tables under names, and lines that say what to do with them."""

from flagfree.bars import Bars, take_bars
from flagfree.best import count_best, first_best
from flagfree.coding import coded, decoded
from flagfree.compared import Never, compared, same_text
from flagfree.cursor import Cursor
from flagfree.errors import BadLine, BadText, FlagError
from flagfree.flags import flags_of
from flagfree.least import least_rate
from flagfree.moves import take_move
from flagfree.prices import DIGITS
from flagfree.rates import worst
from flagfree.rules import Table, take_table
from flagfree.settings import Setting, made_setting, take_setting
from flagfree.signs import SIGNS, is_text, is_word
from flagfree.sizes import size
from flagfree.stacks import Layer, Stack
from flagfree.traps import rounds

LETTERS = "abcdefghijklmnopqrstuvwxyz"
MOST_LETTERS = 8
MOST_DIGITS = 30

# What stands behind the first word of a line. Names: of what need not be there, of a setting S, of a table T, of either
# one; or texts, some signs, a number.
PARTS = {
    "bars": ("new", "BARS"), "setting": ("new", "SETTING"), "table": ("new", "TABLE"),
    "start": ("S", "SIGNS"), "best": ("new", "S"), "at": ("T", "SIGNS", "MOVE"), "drop": ("NAME",),
    "undo": (), "show": ("NAME",), "send": ("S", "T", "SIGNS"), "read": ("S", "T", "SIGNS"),
    "rate": ("S",), "worst": ("S", "T"), "rounds": ("S",), "size": ("S", "N"), "count": ("S",),
    "excess": ("S", "T", "T"), "same": ("S", "T", "T"), "stack": ("S", "T", "S", "T"), "flags": ("S", "N"),
}


def take_some_signs(cursor):
    """Take some signs, a dash for none."""
    word = cursor.peek()
    cursor.take(word == "-" or is_text(word, SIGNS) and word != "")
    return "" if word == "-" else word


def take_number(cursor):
    """Take an integer from 0."""
    word = cursor.peek()
    return int(cursor.take(is_word(word, DIGITS, MOST_DIGITS) and (word == "0" or not word.startswith("0"))))


def taken(cursor, part):
    """Take a part of a line."""
    if part == "BARS":
        return take_bars(cursor)
    if part == "SETTING":
        return take_setting(cursor)
    if part == "TABLE":
        return take_table(cursor)
    if part == "MOVE":
        return take_move(cursor)
    if part == "SIGNS":
        return take_some_signs(cursor)
    if part == "N":
        return take_number(cursor)
    return cursor.take(is_word(cursor.peek(), LETTERS, MOST_LETTERS))


def told_line(line):
    """The first word of a line, and what its parts tell; raises BadLine."""
    if not isinstance(line, str):
        raise BadLine(0)
    cursor = Cursor(line)
    try:
        word = cursor.take(cursor.peek() in PARTS)
        told = [taken(cursor, part) for part in PARTS[word]]
        cursor.finish()
    except BadText as error:
        raise BadLine(error.word) from None
    return word, told


def setting_of_bars(name, told):
    """The setting of some bars."""
    signs, words = told
    return Setting(Bars(signs, *words))


def setting_of_text(name, told):
    """The setting with a text."""
    return made_setting(*told)


def table_of_text(name, told):
    """The table with a text."""
    return Table(told)


def started(setting, end):
    """A setting with another start."""
    return setting.with_start(end)


def best_of(name, setting):
    """The first best table of a setting."""
    return first_best(setting)


def moved(table, end, move):
    """A table with another move at an end."""
    return table.with_move(end, move)


def dropped(thing):
    """Nothing in the place of a thing."""
    return None


def or_none(found):
    """What was found as a text."""
    return "none" if found is None else str(found)


def shown(thing):
    """The text of a thing."""
    return str(thing)


def sent_for(setting, table, content):
    """What a table sends for a content."""
    return coded(table, setting, content) or "-"


def content_of(setting, table, text):
    """The content for which a table sends a text."""
    return decoded(table, setting, text) or "-"


def rate_of(setting):
    """The least rate."""
    return or_none(least_rate(setting))


def worst_of(setting, table):
    """The worst rate of a table."""
    return str(worst(setting, table).rate)


def rounds_of(setting):
    """The lost ends with their rounds."""
    lost = rounds(setting)
    if len(lost) == 0:
        return "none"
    ends = sorted([str(end) for end in lost])
    return " ; ".join([f"{end or '-'} {lost[end]}" for end in ends])


def size_of(setting, n):
    """The least price for so many signs."""
    return or_none(size(setting, n))


def count_of(setting):
    """How many best tables there are."""
    return str(count_best(setting))


def excess_of(setting, one, other):
    """The greatest excess of one table over another one."""
    found = compared(setting, one, other)
    return str(found.excess) if isinstance(found, Never) else "grows"


def unlike_of(setting, one, other):
    """The least content for which two tables do not send the same."""
    content = same_text(setting, one, other)
    return "same" if content is None else content


def stack_of(setting, table, outer, outer_table):
    """The worst rate of a stack of two layers."""
    return str(Stack(Layer(setting, table), Layer(outer, outer_table)).worst().rate)


def flags_told(setting, letters):
    """The words of so many signs that have the least rate."""
    found = flags_of(setting, letters)
    return "none" if found.rate is None else " ".join(found.words)


CHANGES = {"bars": setting_of_bars, "setting": setting_of_text, "table": table_of_text, "start": started,
           "best": best_of, "at": moved, "drop": dropped}

ANSWERS = {"show": shown, "send": sent_for, "read": content_of, "rate": rate_of, "worst": worst_of,
           "rounds": rounds_of, "size": size_of, "count": count_of, "excess": excess_of, "same": unlike_of,
           "stack": stack_of, "flags": flags_told}


def refused(error):
    """The answer to a line for which an error was raised."""
    name = error.__class__.__name__
    return f"refused {name}"


class Desk:
    """Keeps settings and tables under names, and does what lines say."""

    def __init__(self):
        self._things = {}
        # For each line that can be taken back the name, and what was under it ahead of the line, None for nothing.
        self._backs = []

    def __call__(self, line):
        return self.say(line)

    def say(self, line):
        """Do what a line says, and tell the answer."""
        word, told = told_line(line)
        return self._answer(word, told)

    def run(self, *lines):
        """The answers to some lines."""
        # Which words can stand does not hang on what is kept: a wrong line is told ahead of doing any.
        rows = [told_line(line) for line in lines]
        return [self._answer(word, told) for word, told in rows]

    def setting_of(self, name):
        """The Setting of a name, None for any other value."""
        thing = self._thing(name)
        return thing if isinstance(thing, Setting) else None

    def table_of(self, name):
        """The Table of a name, None for any other value."""
        thing = self._thing(name)
        return thing if isinstance(thing, Table) else None

    @property
    def names(self):
        """The names, ascending."""
        return tuple(sorted([str(name) for name in self._things]))

    def __len__(self):
        return len(self._backs)

    def _thing(self, name):
        """What is kept under a name, None for any other value."""
        return self._things.get(name) if isinstance(name, str) else None

    def _named(self, part, told):
        """What a part of a line means: what is kept under a name that must be there, None where it lacks."""
        if part == "S":
            return self.setting_of(told)
        if part == "T":
            return self.table_of(told)
        return self._thing(told) if part == "NAME" else told

    def _answer(self, word, told):
        """The answer to a line, by its first word and what its parts tell."""
        if word == "undo":
            return self._undo()
        meant = []
        for part, one in zip(PARTS[word], told):
            meant.append(self._named(part, one))
            if meant[-1] is None:
                return f"lacks {one}"
        try:
            return self._done(word, told, meant)
        except FlagError as error:
            return refused(error)

    def _done(self, word, told, meant):
        """Do what a line says, by what its parts mean."""
        if word in CHANGES:
            change = CHANGES[word]
            self._keep(told[0], change(*meant))
            return "ok"
        answer = ANSWERS[word]
        return answer(*meant)

    def _keep(self, name, thing):
        """Keep a thing under a name, None for nothing, in the place of what it has."""
        self._backs.append((name, self._things.get(name)))
        self._put(name, thing)

    def _put(self, name, thing):
        """Put a thing under a name, None for nothing."""
        if thing is not None:
            self._things[name] = thing
        elif name in self._things:
            del self._things[name]

    def _undo(self):
        """Take back the last line that was done."""
        if len(self._backs) == 0:
            return "nothing"
        name, thing = self._backs.pop()
        self._put(name, thing)
        return "ok"
