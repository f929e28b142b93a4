"""Logs: what was seen on a line, and the tables that send it so."""

from flagfree.errors import BadContent, BadLog, BadNumber, BadSetting, TooMany
from flagfree.hunts import Hunt, first_place, gone_on
from flagfree.rules import Table
from flagfree.settings import Setting
from flagfree.signs import is_integer, is_text
from flagfree.turns import fit_move, turns_at

MOST_TABLES = 200
MOST_SIGNS = 5


class Clash:
    """A false paper: the tree that shows that no table fits a log."""

    def __init__(self, tree):
        self.tree = tree

    def __eq__(self, other):
        return isinstance(other, Clash) and self.tree == other.tree

    def __bool__(self):
        return False


def is_pair(value, signs):
    """Whether a value is a tuple of a content and what was sent for it."""
    return isinstance(value, tuple) and len(value) == 2 and is_text(value[0], signs) and is_text(value[1], signs)


class Log:
    """What was seen in a setting: pairs of a content and what was sent for it."""

    def __init__(self, setting, *pairs):
        if not isinstance(setting, Setting):
            raise BadSetting("setting")
        for at, pair in enumerate(pairs):
            if not is_pair(pair, setting.bars.signs):
                raise BadLog(at)
        self.setting = setting
        self.pairs = pairs

    def __len__(self):
        return len(self.pairs)

    def __iter__(self):
        return iter(self.pairs)

    def __contains__(self, pair):
        return pair in self.pairs

    def __getitem__(self, at):
        return self.pairs[at]

    def with_pair(self, content, text):
        """The log with one pair more."""
        return Log(self.setting, *self.pairs, (content, text))

    def __or__(self, other):
        if not isinstance(other, Log) or not other.setting == self.setting:
            raise BadLog("other")
        more = [pair for pair in other.pairs if pair not in self.pairs]
        return Log(self.setting, *self.pairs, *more)

    def __eq__(self, other):
        return isinstance(other, Log) and self.setting == other.setting and self.pairs == other.pairs


def check_log(log):
    """See that this is a Log."""
    if not isinstance(log, Log):
        raise BadLog("log")


def told_tables(log):
    """The tables on just the ends that are asked for, that fit a log, one by one."""
    check_log(log)
    hunt = Hunt(log)
    many = 0
    told = hunt.next_told()
    while told is not None:
        if many == MOST_TABLES:
            raise TooMany("tables", MOST_TABLES)
        many = many + 1
        yield Table(told)
        told = hunt.next_told()


def clash_tree(log, told, behind):
    """The tree for some moves that are told, from a place on; no table with these moves fits."""
    place, fits = gone_on(log, told, behind)
    if not fits:
        return None
    branches = []
    for move in log.setting.menu:
        fit = log.setting.is_fit(place.end, move)
        branches.append(clash_tree(log, {**told, place.end: move}, place) if fit else None)
    return (place.end, tuple(branches))


def told_back(log):
    """The first table that fits a log, or a Clash if there is none."""
    for table in told_tables(log):
        return table
    return Clash(clash_tree(log, {}, first_place(log)))


def first_clash(log):
    """The least index of a pair such that no table fits the pairs up to it, None if some table fits all."""
    check_log(log)
    hunt = Hunt(log)
    if hunt.next_told() is not None:
        return None
    return hunt.furthest


def sure_moves(log):
    """The dict from ends to the moves that all told tables tell alike, empty if there is none."""
    tables = list(told_tables(log))
    if len(tables) == 0:
        return {}
    return {end: move for end, move in tables[0].moves
            if all([end in table and table[end] == move for table in tables])}


def told_turns(log):
    """For each told table the dict from the ends that it tells to the turns [turns.py] there."""
    return [{end: turns_at(log.setting, table, end) for end in table} for table in told_tables(log)]


def one_further(turns, said, sign):
    """The pair (text, end behind) of one content sign more, None if a table with these turns does not go on."""
    if said is None or turns.get(said[1]) is None:
        return None
    word, _, behind = turns[said[1]][sign]
    return said[0] + word, behind


def unlike_texts(told):
    """The texts among some pairs (text, end behind), each one once, None left out."""
    return list({said[0]: True for said in told if said is not None})


def guesses(log, content):
    """The unlike texts that told tables send for a content, ascending."""
    check_log(log)
    if not is_text(content, log.setting.bars.signs):
        raise BadContent(content)
    told = []
    for turns in told_turns(log):
        said = ("", log.setting.start)
        for sign in content:
            said = one_further(turns, said, sign)
        told.append(said)
    return tuple(sorted([str(text) for text in unlike_texts(told)]))


def asks(log, most):
    """The first content of at most so many signs for which told tables send unlike texts, None if there is none."""
    check_log(log)
    if not is_integer(most) or most < 0 or most > MOST_SIGNS:
        raise BadNumber(most)
    rows = told_turns(log)
    level = [("", [("", log.setting.start) for _ in rows])]
    for _ in range(most):
        longer = []
        for content, told in level:
            for sign in log.setting.bars.signs:
                further = [one_further(turns, said, sign) for turns, said in zip(rows, told)]
                if len(unlike_texts(further)) > 1:
                    return content + sign
                longer.append((content + sign, further))
        level = longer
    return None


def shows_told(log, value):
    """Whether a value is a Table that fits a log."""
    check_log(log)
    if not isinstance(value, Table):
        return False
    setting = log.setting
    told = {end: value[end] for end in setting.bars.ends if fit_move(setting, value, end) is not None}
    place, _ = gone_on(log, told, first_place(log))
    return place.at == len(log.pairs)


def is_clash_tree(log, told, behind, tree):
    """Whether a value is the tree for some moves that are told, from a place on."""
    place, fits = gone_on(log, told, behind)
    if not fits:
        return tree is None
    if place.at == len(log.pairs) or not isinstance(tree, tuple) or len(tree) != 2:
        return False
    end, branches = tree
    moves = log.setting.menu.moves
    if end != place.end or not isinstance(branches, tuple) or len(branches) != len(moves):
        return False
    for move, branch in zip(moves, branches):
        if not log.setting.is_fit(end, move):
            if branch is not None:
                return False
        elif not is_clash_tree(log, {**told, end: move}, place, branch):
            return False
    return True


def shows_clash(log, value):
    """Whether a value is a Clash of the tree that shows that no table fits a log."""
    check_log(log)
    return isinstance(value, Clash) and is_clash_tree(log, {}, first_place(log), value.tree)
