"""Hunts: how a log is gone through, and the search for the tables that fit it."""

from flagfree.moves import Put


class Place:
    """Where the going through of a log stands.

    That is the index of a pair, how many signs of its content and of its text are sent, the end behind these, and the
    ends whose moves this pair made so far, as a dict.
    """

    def __init__(self, at, signs, sent, end, used):
        self.at = at
        self.signs = signs
        self.sent = sent
        self.end = end
        self.used = used


def first_place(log):
    """The place ahead of all pairs."""
    return Place(0, 0, 0, log.setting.start, {})


def gone_on(log, told, place):
    """The place to which moves that are told go on from a place, and whether the pairs are sent as they were.

    All moves are fit. They go on to the place at which a move is asked for that is not told, or behind all pairs.
    """
    at, signs, sent, end = place.at, place.signs, place.sent, place.end
    used = dict(place.used)
    while at < len(log.pairs):
        content, text = log.pairs[at]
        if signs == len(content):
            if sent != len(text):
                return Place(at, signs, sent, end, used), False
            at, signs, sent, end = at + 1, 0, 0, log.setting.start
            used = {}
            continue
        if end not in told:
            return Place(at, signs, sent, end, used), True
        used[end] = True
        move = told[end]
        word = move.sign if isinstance(move, Put) else move[content[signs]]
        if not text.startswith(word, sent):
            return Place(at, signs, sent, end, used), False
        signs = signs if isinstance(move, Put) else signs + 1
        sent = sent + len(word)
        end = log.setting.bars.onward(end, word)
    return Place(at, signs, sent, end, used), True


class Choice:
    """An end at which the moves that are let are told in turn, with the moves that are told ahead of it.

    blamed are the ends on whose moves it hangs that no table fits with those that were told here so far.
    """

    def __init__(self, log, told, place):
        self.end = place.end
        self.told = told
        self.place = place
        self.blamed = dict(place.used)
        self.left = list(reversed(list(log.setting.let(place.end))))

    def blame(self, ends):
        """Blame some ends, too."""
        for end in ends:
            if end != self.end:
                self.blamed[end] = True


class Hunt:
    """Finds the tables that fit a log, in their order.

    Where a pair is not sent as it was, this hangs on the moves at the ends that it used alone: so no other moves are
    told at an end that is not to blame. That leaves out no table that fits.
    """

    def __init__(self, log):
        self.log = log
        # The greatest index of a pair that was come to: all pairs ahead of it were sent as they were by some moves.
        self.furthest = 0
        self._choices = []
        self._ahead = ({}, first_place(log))

    def next_told(self):
        """The dict of the moves of the next table, None if there is none."""
        while self._ahead is not None:
            told, behind = self._ahead
            place, fits = gone_on(self.log, told, behind)
            if place.at > self.furthest:
                self.furthest = place.at
            if place.at == len(self.log.pairs):
                self._turn(told)
                return told
            if fits:
                self._choices.append(Choice(self.log, told, place))
                self._turn({place.end: True})
            else:
                self._turn(place.used)
        return None

    def _turn(self, blamed):
        """Tell the next move at the last end that is to blame, and at which one is left."""
        while len(self._choices) > 0:
            choice = self._choices[-1]
            if choice.end in blamed:
                choice.blame(blamed)
                if len(choice.left) > 0:
                    self._ahead = ({**choice.told, choice.end: choice.left.pop()}, choice.place)
                    return
                blamed = choice.blamed
            self._choices.pop()
        self._ahead = None
