"""Links: stations that send, or hear, what goes through a link, and take back what they did."""

from flagfree.errors import BadContent, BadLink, BadSent, FlagError, NoChange, Refused
from flagfree.moves import Put
from flagfree.settings import Setting
from flagfree.signs import is_text
from flagfree.turns import turns_of


def heard_at(setting, table, end):
    """The dict from what is heard of a move at an end to pairs (content, end behind), to None amid a word."""
    move = table[end]
    if isinstance(move, Put):
        return {move.sign: ("", setting.bars.onward(end, move.sign))}
    told = {}
    for sign, word in move.words:
        for k in range(1, len(word)):
            told[word[:k]] = None
        told[word] = (sign, setting.bars.onward(end, word))
    return told


class Deed:
    """What a station was ahead of a deed; of texts, which only grow, the lengths are enough."""

    def __init__(self, end, table, told, begun, many, said, price):
        self.end = end
        self.table = table
        self.told = told
        self.begun = begun
        self.many = many
        self.said = said
        self.price = price


class Held:
    """What a station was ahead of a block of a trial; kept is None until the block is to be kept."""

    def __init__(self, outer, end, content, words, deeds):
        self.outer = outer
        self.kept = None
        self.end = end
        self.content = content
        self.words = words
        self.deeds = deeds
        self.table = None
        self.told = None
        self.begun = ""
        self.sent = None
        self.price = None
        self.heard = None


class Trial:
    """What goes back to what a station was ahead of a block, unless the block is kept."""

    def __init__(self, station):
        self.station = station
        # The blocks that are entered and not yet left, the innermost one first, each one with the one around it.
        self._held = None

    def __enter__(self):
        self._held = self.station.held(self._held)
        return self

    def __exit__(self, kind, value, trace):
        station = self.station
        if kind is not None or self._held.kept is None:
            station.end = self._held.end
            station.content = self._held.content
            station._words = self._held.words
            station._deeds = self._held.deeds
            station._table = self._held.table
            station._told = self._held.told
            station._amid = self._held.begun
            if self._held.heard is None:
                station.sent = self._held.sent
                station.price = self._held.price
            if self._held.sent is None:
                station.heard = self._held.heard
        self._held = self._held.outer

    def keep(self):
        """Let stay what is done in the innermost block that is not yet left."""
        if self._held is not None:
            self._held.kept = True


class Station:
    """The base of senders and receivers; it is not made itself."""

    def __init__(self, setting, table):
        if not isinstance(setting, Setting):
            raise BadLink("setting")
        self.setting = setting
        self.end = setting.start
        self.content = ""
        self._told = self._learned(table)
        self._first = table
        self._table = table
        self._amid = ""
        self._words = []
        self._deeds = []

    def _learned(self, table):
        """What a table tells at the ends that come from this end on."""
        turns = turns_of(self.setting.with_start(self.end), table)
        if turns is None:
            raise BadLink("table")
        return self._lesson(table, turns)

    def _lesson(self, table, turns):
        """What is kept of a table with these turns."""
        return turns

    def _spoken(self):
        """What was sent, its price, and what was heard; None for what a station has not."""
        return None, None, None

    def _note(self, word):
        """Note what the station is ahead of a deed."""
        sent, price, heard = self._spoken()
        said = len(sent) if heard is None else len(heard)
        self._deeds.append(Deed(self.end, self._table, self._told, self._amid, len(self.content), said, price))
        self._words.append(word)

    def held(self, outer):
        """What the station is now, within an outer block."""
        held = Held(outer, self.end, self.content, list(self._words), list(self._deeds))
        held.table = self._table
        held.told = self._told
        held.begun = self._amid
        held.sent, held.price, held.heard = self._spoken()
        return held

    @property
    def way(self):
        """The table that is used."""
        return self._table

    @way.setter
    def way(self, value):
        self.use(value)

    def use(self, table):
        """Use a table from now on."""
        told = self._learned(table)
        if self._amid != "":
            raise BadLink("amid")
        self._note("table")
        self._table = table
        self._told = told

    def undo(self):
        """Take back the last deed, and tell its word."""
        if len(self._words) == 0:
            raise NoChange()
        deed = self._deeds.pop()
        self.end = deed.end
        self.content = self.content[:deed.many]
        self._table = deed.table
        self._told = deed.told
        self._amid = deed.begun
        self._unsay(deed)
        return self._words.pop()

    def _unsay(self, deed):
        """Leave of what was said what was said ahead of a deed."""

    def trial(self):
        """A block behind which the station is as ahead of it, unless it is kept."""
        return Trial(self)

    def tried(self, work):
        """What a work with the station returns; nothing that it does stays."""
        with self.trial():
            return work(self)

    def attempt(self, work):
        """What a work with the station returns; what it does stays, unless an error leaves it."""
        try:
            with self.trial() as same:
                found = work(self)
                same.keep()
            return found
        except FlagError as error:
            raise BadLink("work") from error

    def twin(self):
        """An equal station without deeds."""
        twin = self._made_anew()
        twin.end = self.end
        twin.content = self.content
        twin._table = self._table
        twin._told = self._told
        twin._amid = self._amid
        return twin

    def _made_anew(self):
        """A station of this class that said the same, at the start."""
        return Station(self.setting, self._first)

    def __eq__(self, other):
        if not isinstance(other, Station) or self._spoken() != other._spoken():
            return False
        if self.end != other.end or self.content != other.content:
            return False
        return self.setting == other.setting and self._table == other._table

    def __len__(self):
        return len(self._words)

    def __iter__(self):
        return iter(self._words)


class Sender(Station):
    """Sends contents."""

    def __init__(self, setting, table):
        Station.__init__(self, setting, table)
        self.sent = ""
        self.price = 0

    def _spoken(self):
        """What was sent, and its price."""
        return self.sent, self.price, None

    def _unsay(self, deed):
        """Leave what was sent ahead of a deed."""
        self.sent = self.sent[:deed.said]
        self.price = deed.price

    def _made_anew(self):
        """A sender that sent the same, at the start."""
        twin = Sender(self.setting, self._first)
        twin.sent = self.sent
        twin.price = self.price
        return twin

    def _gone(self, content):
        """What is sent for a content, its price, and the end behind it."""
        if not is_text(content, self.setting.bars.signs):
            raise BadContent(content)
        sent = []
        price = 0
        end = self.end
        for sign in content:
            text, more, end = self._told[end][sign]
            sent.append(text)
            price = price + more
        return "".join(sent), price, end

    def send(self, content):
        """Send a content, and tell what is sent."""
        text, price, end = self._gone(content)
        self._note("send")
        self.content = self.content + content
        self.sent = self.sent + text
        self.price = self.price + price
        self.end = end
        return text

    def cost(self, content):
        """The price that sending a content would have."""
        _, price, _ = self._gone(content)
        return price


class Receiver(Station):
    """Hears what is sent."""

    def __init__(self, setting, table):
        Station.__init__(self, setting, table)
        self.heard = ""

    def _lesson(self, table, turns):
        """What can be heard at each end that comes."""
        ends = table.reached(self.setting.with_start(self.end))
        return {end: heard_at(self.setting, table, end) for end in ends}

    def _spoken(self):
        """What was heard."""
        return None, None, self.heard

    def _unsay(self, deed):
        """Leave what was heard ahead of a deed."""
        self.heard = self.heard[:deed.said]

    def _made_anew(self):
        """A receiver that heard the same, at the start."""
        twin = Receiver(self.setting, self._first)
        twin.heard = self.heard
        return twin

    @property
    def amid(self):
        """The signs heard of a word that is not yet complete."""
        return self._amid

    def hear(self, text):
        """Hear further signs, and tell the content that is complete with them."""
        if not is_text(text, self.setting.bars.signs):
            raise BadSent(text)
        end = self.end
        amid = self._amid
        content = []
        for at, sign in enumerate(text):
            amid = amid + sign
            if amid not in self._told[end]:
                raise Refused(at)
            told = self._told[end][amid]
            if told is not None:
                content.append(told[0])
                end = told[1]
                amid = ""
        self._note("hear")
        found = "".join(content)
        self.content = self.content + found
        self.heard = self.heard + text
        self.end = end
        self._amid = amid
        return found
