"""Lost ends: from them nobody can send all contents."""

from flagfree.errors import BadMove
from flagfree.moves import Code
from flagfree.settings import check_setting, told_outcomes


class Open:
    """A paper: how each end that comes goes on to a code, for ever."""

    def __init__(self, ways):
        self.ways = ways

    def __eq__(self, other):
        return isinstance(other, Open) and self.ways == other.ways


class Trap:
    """A false paper: the rounds of a trap."""

    def __init__(self, rounds):
        self.rounds = rounds

    def __eq__(self, other):
        return isinstance(other, Trap) and self.rounds == other.rounds

    def __bool__(self):
        return False


def check_fixed(setting, fixed):
    """See that fixed is None or a dict from ends to moves of the menu."""
    check_setting(setting)
    if fixed is None:
        return
    if not isinstance(fixed, dict):
        raise BadMove("fixed")
    if not all([end in setting.bars.ends and fixed[end] in setting.menu for end in fixed]):
        raise BadMove("fixed")


def told_moves(setting, fixed, end):
    """The moves that the menu means at an end: the fixed one alone, if there is one."""
    if fixed is not None and end in fixed:
        return (fixed[end],)
    return setting.menu.moves


def moves_at(setting, fixed):
    """The dict from all ends to the list of the moves there, each with the list of the ends behind."""
    found = {}
    for end in setting.bars.ends:
        moves = told_moves(setting, fixed, end)
        found[end] = [(move, [behind for _, _, behind in told_outcomes(setting.bars, end, move)]) for move in moves]
    return found


def codes_among(told):
    """The codes among some moves, each with the list of the ends behind."""
    return [(move, ends) for move, ends in told if isinstance(move, Code)]


def puts_among(told):
    """The puts among some moves, each with the end behind."""
    return [(move, ends[0]) for move, ends in told if not isinstance(move, Code)]


def is_losing(ends, lost):
    """Whether some outcome completes a word, or leads to a lost end."""
    return any([behind is None or behind in lost for behind in ends])


def codes_lose(told, lost):
    """Whether each code among some moves completes a word, or leads to a lost end."""
    return all([is_losing(ends, lost) for _, ends in codes_among(told)])


def puts_stay(told, within):
    """Whether each put among some moves completes a word, or leads to one of some ends."""
    return all([behind is None or behind in within for _, behind in puts_among(told)])


def lost_within(moves, lost):
    """The ends of the next round, and those ahead of it, lost being those of the rounds ahead."""
    left = {end: True for end in moves if codes_lose(moves[end], lost)}
    while True:
        fewer = {end: True for end in left if puts_stay(moves[end], left)}
        if len(fewer) == len(left):
            return left
        left = fewer


def lost_ends(moves):
    """The dict from all lost ends to their least rounds, by the moves at each end."""
    lost = {}
    turn = 1
    while True:
        more = [end for end in lost_within(moves, lost) if end not in lost]
        if len(more) == 0:
            return lost
        for end in more:
            lost[end] = turn
        turn = turn + 1


def code_ways(moves, lost):
    """The ways (code, 0) of the open ends at which some code leads to open ends alone."""
    ways = {}
    for end in moves:
        codes = [move for move, ends in codes_among(moves[end]) if not is_losing(ends, lost)]
        if len(codes) > 0:
            ways[end] = (codes[0], 0)
    return ways


def open_ways(moves, lost):
    """The dict from all open ends to their ways: the first such code, or the least put to a nearest end."""
    ways = code_ways(moves, lost)
    distance = 0
    while True:
        distance = distance + 1
        nearer = {}
        for end in moves:
            puts = [move for move, behind in puts_among(moves[end]) if behind in ways]
            if end not in ways and len(puts) > 0:
                nearer[end] = (puts[0], distance)
        if len(nearer) == 0:
            return ways
        ways = {**ways, **nearer}


def ways_from(setting, ways):
    """Those of the ways of all open ends that come from the start on."""
    found = {}
    ahead = [setting.start]
    while len(ahead) > 0:
        end = ahead.pop()
        if end not in found:
            found[end] = ways[end]
            ahead.extend([behind for _, _, behind in told_outcomes(setting.bars, end, ways[end][0])])
    return found


def rounds(setting, fixed=None):
    """The dict from all lost ends to their least rounds."""
    check_fixed(setting, fixed)
    return lost_ends(moves_at(setting, fixed))


def open_ends(setting, fixed=None):
    """The ends that are not lost, ascending."""
    lost = rounds(setting, fixed)
    return tuple([end for end in setting.bars.ends if end not in lost])


def judged(setting, fixed=None):
    """An Open if the start is open, otherwise the Trap of all lost ends."""
    check_fixed(setting, fixed)
    moves = moves_at(setting, fixed)
    lost = lost_ends(moves)
    if setting.start in lost:
        return Trap(lost)
    return Open(ways_from(setting, open_ways(moves, lost)))
