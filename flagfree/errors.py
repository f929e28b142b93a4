"""The errors: each one keeps what it tells in attributes."""


class FlagError(ValueError):
    """The base of all errors."""


class BadSigns(FlagError):
    """A value that is no alphabet."""

    def __init__(self, value):
        self.value = value


class BadWord(FlagError):
    """A value that is no word."""

    def __init__(self, value):
        self.value = value


class BadBars(FlagError):
    """A part of what was told of bars."""

    def __init__(self, part):
        self.part = part


class BadSign(FlagError):
    """A value that is no sign, or none of the alphabet."""

    def __init__(self, value):
        self.value = value


class BadText(FlagError):
    """The first word of a text that cannot stand."""

    def __init__(self, line, word):
        self.line = line
        self.word = word


class BadSent(FlagError):
    """A value that cannot have been sent."""

    def __init__(self, value):
        self.value = value


class BadEnd(FlagError):
    """A value that cannot be an end."""

    def __init__(self, value):
        self.value = value


class BadMove(FlagError):
    """A part of what was told of a move."""

    def __init__(self, part):
        self.part = part


class BadMenu(FlagError):
    """A part of what was told of a menu."""

    def __init__(self, part):
        self.part = part


class BadPrice(FlagError):
    """A value that is no price or weight."""

    def __init__(self, value):
        self.value = value


class BadSetting(FlagError):
    """A part of what was told of a setting."""

    def __init__(self, part):
        self.part = part


class BadRate(FlagError):
    """A part of what was told of a rate."""

    def __init__(self, part):
        self.part = part


class BadRule(FlagError):
    """A part of what was told of a rule."""

    def __init__(self, part):
        self.part = part


class BadTable(FlagError):
    """A part of what was told of a table."""

    def __init__(self, part):
        self.part = part


class BadContent(FlagError):
    """A value that is no content."""

    def __init__(self, value):
        self.value = value


class BadNumber(FlagError):
    """A value that is no such number."""

    def __init__(self, value):
        self.value = value


class BadLog(FlagError):
    """A part of what was told of a log."""

    def __init__(self, part):
        self.part = part


class BadLayer(FlagError):
    """A part of what was told of a layer."""

    def __init__(self, part):
        self.part = part


class BadLink(FlagError):
    """A part of what was told of a link."""

    def __init__(self, part):
        self.part = part


class BadLine(FlagError):
    """The first word of a line that cannot stand."""

    def __init__(self, word):
        self.word = word


class NoEnd(FlagError):
    """A value that is no end here."""

    def __init__(self, end):
        self.end = end


class TooMany(FlagError):
    """More of something than there may be."""

    def __init__(self, what, most):
        self.what = what
        self.most = most


class NoWay(FlagError):
    """An end from which no rule sends all contents."""

    def __init__(self, end):
        self.end = end


class NoRound(FlagError):
    """No round within so many signs."""

    def __init__(self, most):
        self.most = most


class Stuck(FlagError):
    """An end at which a rule cannot go on."""

    def __init__(self, end):
        self.end = end


class Refused(FlagError):
    """The index of a sign that is not sent there."""

    def __init__(self, at):
        self.at = at


class NoChange(FlagError):
    """Nothing is left to take back."""
