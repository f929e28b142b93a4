"""Rules: they tell a move for what was sent so far."""

from flagfree.cursor import Cursor
from flagfree.errors import BadEnd, BadMove, BadRule, BadSent, BadSetting, BadTable, NoEnd, Stuck
from flagfree.moves import Move, take_move
from flagfree.settings import Setting, check_setting, told_outcomes
from flagfree.signs import SIGNS, is_text, is_word
from flagfree.traps import lost_ends, moves_at, open_ways

MOST_SIGNS = 7


def end_behind(sent, setting):
    """The end behind all that was sent, from the start of the setting on."""
    check_setting(setting)
    end = setting.bars.behind(setting.start, sent)
    if end is None:
        raise BadSent(sent)
    return end


def move_behind(rule, sent, setting):
    """The move that a rule tells behind all that was sent."""
    end = end_behind(sent, setting)
    return rule.tell(sent, len(sent), end, setting)


def joined_rules(one, other):
    """The Joined of two rules; raises what `|` raises."""
    if not isinstance(other, Rule):
        raise BadRule("other")
    return Joined(one, other)


def is_end(value):
    """Whether a value is a string of at most 7 signs."""
    return is_text(value, SIGNS) and len(value) <= MOST_SIGNS


def by_length(ends):
    """Some ends, shorter ones first, those of one length ascending."""
    return tuple(sorted(sorted([str(end) for end in ends]), key=len))


def stands_behind(word, last):
    """Whether a word of a text is an end that comes behind another one, None ahead of the first one."""
    if last is None:
        return word == "-" or is_word(word, SIGNS, MOST_SIGNS)
    return is_word(word, SIGNS, MOST_SIGNS) and (len(word), word) > (len(last), last)


def take_rows(cursor):
    """Take the rows of a table that has ends: the dict from them to their moves."""
    told = {}
    last = None
    while True:
        word = cursor.take(stands_behind(cursor.peek(), last))
        last = "" if word == "-" else word
        cursor.expect(":")
        told[last] = take_move(cursor)
        # No end comes behind the greatest one, so nothing can stand there.
        if cursor.peek() != ";" or last == "z" * MOST_SIGNS:
            return told
        cursor.expect(";")


def take_table(cursor):
    """Take the text of a Table, up to its last word: the dict from its ends to their moves."""
    if cursor.words[cursor.at:] == ["table"]:
        cursor.take(True)
        return {}
    return take_rows(cursor)


class Rule:
    """The base of rules; it is not made itself."""

    def __call__(self, sent, setting):
        return move_behind(self, sent, setting)

    def __or__(self, other):
        return joined_rules(self, other)

    def tell(self, text, at, end, setting):
        """The move behind the first signs of a text, so many, with this end; a rule of no kind tells none.

        The text is not cut ahead of this: only what looks at more than the end pays for its length.
        """
        return None


class Table(Rule):
    """A rule by the ends of what was sent."""

    def __init__(self, moves):
        if not isinstance(moves, dict):
            raise BadTable("moves")
        for end in moves:
            if not is_end(end):
                raise BadEnd(end)
        if not all([isinstance(move, Move) for move in moves.values()]):
            raise BadMove("move")
        self._ends = by_length(moves)
        self.moves = tuple([(end, moves[end]) for end in self._ends])
        self._told = {end: move for end, move in self.moves}

    @classmethod
    def read(cls, text):
        """The Table with this text."""
        cursor = Cursor(text)
        told = take_table(cursor)
        cursor.finish()
        return Table(told)

    def __call__(self, sent, setting):
        return move_behind(self, sent, setting)

    def tell(self, text, at, end, setting):
        """The move that is told for an end."""
        return self._told.get(end)

    def __or__(self, other):
        return joined_rules(self, other)

    def __eq__(self, other):
        return isinstance(other, Table) and self.moves == other.moves

    def __str__(self):
        if len(self._ends) == 0:
            return "table"
        return " ; ".join([f"{end or '-'} : {move}" for end, move in self.moves])

    def __len__(self):
        return len(self._ends)

    def __iter__(self):
        return iter(self._ends)

    def __contains__(self, end):
        return is_end(end) and end in self._told

    def __getitem__(self, end):
        if not is_end(end) or end not in self._told:
            raise NoEnd(end)
        return self._told[end]

    def with_move(self, end, move):
        """The table with another move at an end."""
        if not is_end(end):
            raise BadEnd(end)
        return Table({**self._told, end: move})

    def reached(self, setting):
        """The ends that come, in the order in which they are first met."""
        if not isinstance(setting, Setting):
            raise BadSetting("setting")
        met = [setting.start]
        at = 0
        while at < len(met):
            for behind in self._ends_behind(met[at], setting):
                if behind not in met:
                    met.append(behind)
            at = at + 1
        return tuple(met)

    def _ends_behind(self, end, setting):
        """The ends to which its move leads from an end, by signs ascending."""
        move = self._told.get(end)
        if move not in setting.menu or not setting.is_fit(end, move):
            raise Stuck(end)
        return [behind for _, _, behind in told_outcomes(setting.bars, end, move)]


class Late(Rule):
    """Puts as late as it can without coming to a lost end."""

    def __init__(self):
        # The moves for the setting that it was asked for last: found once, not at each move.
        self._setting = None
        self._ways = {}

    def __call__(self, sent, setting):
        return move_behind(self, sent, setting)

    def tell(self, text, at, end, setting):
        """The latest move at an end, None at a lost one."""
        if not self._setting == setting:
            moves = moves_at(setting, None)
            self._ways = open_ways(moves, lost_ends(moves))
            self._setting = setting
        if end not in self._ways:
            return None
        return self._ways[end][0]

    def __or__(self, other):
        return joined_rules(self, other)

    def __eq__(self, other):
        return isinstance(other, Late)

    def __str__(self):
        return "late"


class By(Rule):
    """A rule by a function of what was sent and the setting."""

    def __init__(self, work):
        self.work = work

    def __call__(self, sent, setting):
        return move_behind(self, sent, setting)

    def tell(self, text, at, end, setting):
        """The move that the function returns."""
        work = self.work
        move = work(text[:at], setting)
        if move is not None and not isinstance(move, Move):
            raise BadRule("move")
        return move

    def __or__(self, other):
        return joined_rules(self, other)

    def __eq__(self, other):
        return isinstance(other, By) and self.work == other.work

    def __str__(self):
        return "by"


class Joined(Rule):
    """A rule that asks one rule, and another one where that one tells no move."""

    def __init__(self, one, other):
        self.parts = parts_of(one) + parts_of(other)

    def __call__(self, sent, setting):
        return move_behind(self, sent, setting)

    def tell(self, text, at, end, setting):
        """The first move that a part tells."""
        for part in self.parts:
            move = part.tell(text, at, end, setting)
            if move is not None:
                return move
        return None

    def __or__(self, other):
        return joined_rules(self, other)

    def __eq__(self, other):
        return isinstance(other, Joined) and self.parts == other.parts

    def __str__(self):
        return " | ".join([str(part) for part in self.parts])


def parts_of(rule):
    """The rules of which a rule is joined."""
    if isinstance(rule, Joined):
        return rule.parts
    return (rule,)
