import random
import unittest

from common import others, refuses, same, values
from flagfree.bars import Bars
from flagfree.coding import coded, paid
from flagfree.errors import BadContent, BadLink, BadSent, FlagError, NoChange, Refused, Stuck
from flagfree.links import Receiver, Sender, Station
from flagfree.menus import Menu
from flagfree.moves import Code, Put
from flagfree.prices import Prices
from flagfree.rules import Table
from flagfree.settings import Setting
from oracles import is_text, plain_sent, price_of, sends_all, slow_end, texts
from samples import mixed_settings, open_settings, some_settings, some_tables, sound_tables

PLAIN = Code.plain("01")
LINE = Setting(Bars("01", "111"))
LATE = Table({"": PLAIN, "1": PLAIN, "11": Put("0")})
EAGER = Table({"": PLAIN, "1": Put("0")})
WORDS = Code({"0": "010", "1": "011"})
LONG = Setting(Bars("01", "111"), Menu("01", PLAIN, WORDS, Put("0"), Put("1")))
SLOW = Table({"": Put("1"), "1": WORDS, "11": WORDS})


def some_ways(many, seed):
    """Settings with some tables each that send all contents."""
    draw = random.Random(seed)
    rows = [(setting, sound_tables(draw, setting, 3)) for setting in open_settings(mixed_settings(many, seed))]
    return [row for row in rows if row[1]] + [(LONG, [SLOW, LATE, EAGER])]


def state(station):
    """All that a station tells of itself."""
    if isinstance(station, Sender):
        said = station.sent, station.price
    else:
        said = station.heard, station.amid
    return station.setting, station.end, station.content, said, station.way, list(station), len(station)


class Raised(Exception):
    pass


def raises(error):
    """A work that does deeds, undoes more than these, and raises an error."""
    def work(station):
        said(station)
        while len(station):
            station.undo()
        station.use(EAGER)
        said(station)
        raise error
    return work


def said(station):
    """Send or hear something, as the station does."""
    if isinstance(station, Sender):
        return station.send("0")
    try:
        return station.hear("0")
    except Refused:
        return station.hear("1")


class SenderTest(unittest.TestCase):

    def test_pieces_of_all_sizes(self):
        draw = random.Random(149)
        for setting, tables in some_ways(60, 151):
            table = tables[0]
            for content in draw.sample(texts(setting.bars.signs, 5), 20):
                sender, at = Sender(setting, table), 0
                while at < len(content) or draw.random() < 0.3:
                    many = draw.randint(0, 4)
                    piece = content[at:at + many]
                    before, end = coded(table, setting, content[:at]), sender.end
                    after = coded(table, setting, content[:at + many])
                    self.assertTrue(same(sender.cost(piece), price_of(setting, after[len(before):])))
                    self.assertEqual((sender.end, sender.sent), (end, before))
                    self.assertTrue(same(sender.send(piece), after[len(before):]))
                    at += len(piece)
                    self.assertTrue(same((sender.content, sender.sent), (content[:at], after)))
                    self.assertTrue(same(sender.price, paid(table, setting, content[:at])))
                    self.assertEqual(sender.end, slow_end(setting.start + after, setting.bars.words))
                    self.assertEqual(sender.way, table)

    def test_by_hand(self):
        sender = Sender(LINE, LATE)
        self.assertEqual((sender.setting, sender.end, sender.content, sender.sent, sender.price, len(sender)),
                         (LINE, "", "", "", 0, 0))
        self.assertEqual([sender.send("0111"), sender.end, sender.send(content="11"), sender.price, sender.cost("1")],
                         ["01101", "1", "101", 8, 1])
        dear = Sender(LINE.with_prices(Prices("01", {"0": 3, "1": 2})), LATE)
        self.assertEqual([dear.send("11"), dear.price, dear.cost(content="11"), dear.send("11"), dear.price],
                         ["11", 4, 7, "011", 11])
        there = Sender(table=Table({"11": Put("0"), "": PLAIN, "1": PLAIN}), setting=LINE.with_start("11"))
        self.assertEqual([there.end, there.send("1"), there.end], ["11", "01", "1"])
        self.assertEqual("01" + there.send("0110" * 500), coded(there.way, there.setting, "1" + "0110" * 500))

    def test_values(self):
        sender = Sender(LINE, LATE)
        sender.send("011")
        before = state(sender)
        for value in others(lambda value: is_text(value, "01")):
            refuses(self, BadContent(value), sender.send, value)
            refuses(self, BadContent(value), sender.cost, value)
            self.assertEqual(state(sender), before)


class ReceiverTest(unittest.TestCase):

    def test_pieces_of_all_sizes(self):
        draw = random.Random(157)
        for setting, tables in some_ways(60, 163):
            table = tables[0]
            moves = dict(table.moves)
            for content in draw.sample(texts(setting.bars.signs, 5), 20):
                text = coded(table, setting, content)
                receiver, at = Receiver(setting, table), 0
                while at < len(text) or draw.random() < 0.3:
                    many = draw.randint(0, 4)
                    piece, heard = text[at:at + many], receiver.content
                    told = receiver.hear(piece)
                    at += len(piece)
                    whole = [content[:k] for k in range(len(content) + 1)
                             if len(coded(table, setting, content[:k])) <= at][-1]
                    self.assertTrue(same(told, whole[len(heard):]))
                    self.assertTrue(same((receiver.content, receiver.heard), (whole, text[:at])))
                    sent, end = plain_sent(setting, moves, setting.start, whole)
                    # Behind the word of a code whole puts were heard, then perhaps a part of a word.
                    rest = text[len(sent):at]
                    while rest and isinstance(moves[end], Put):
                        self.assertEqual(moves[end].sign, rest[0])
                        end, rest = slow_end(end + rest[0], setting.bars.words), rest[1:]
                    self.assertEqual((receiver.end, receiver.amid, receiver.way), (end, rest, table))
                self.assertEqual((receiver.content, receiver.amid), (content, ""))

    def test_refused(self):
        draw = random.Random(167)
        many = 0
        for setting, tables in some_ways(60, 173):
            table, signs = tables[0], setting.bars.signs
            right = set()
            for content in texts(signs, 6 if len(signs) == 2 else 5):
                text = coded(table, setting, content)
                right |= {text[:k] for k in range(min(len(text), 6) + 1)}
            for text in draw.sample(texts(signs, 5), 40):
                bad = next((k for k in range(len(text)) if text[:k + 1] not in right), None)
                cut = draw.randint(0, len(text))
                receiver = Receiver(setting, table)
                if bad is None:
                    receiver.hear(text)
                    continue
                many += 1
                refuses(self, Refused(bad), receiver.hear, text)
                self.assertEqual(state(receiver), state(Receiver(setting, table)))
                if cut <= bad:
                    receiver.hear(text[:cut])
                    before = state(receiver)
                    refuses(self, Refused(bad - cut), receiver.hear, text[cut:])
                    self.assertEqual(state(receiver), before)
        self.assertGreater(many, 200)

    def test_by_hand(self):
        receiver = Receiver(LINE, LATE)
        self.assertEqual((receiver.setting, receiver.end, receiver.content, receiver.heard, receiver.amid),
                         (LINE, "", "", "", ""))
        self.assertEqual([receiver.hear("0110"), receiver.hear(text="1101"), receiver.end], ["011", "111", "1"])
        refuses(self, Refused(1), receiver.hear, "111")
        self.assertEqual((receiver.heard, len(receiver)), ("01101101", 2))
        slow = Receiver(LONG, SLOW)
        self.assertEqual([slow.hear("1"), slow.end, slow.amid, slow.hear("0"), slow.end, slow.amid],
                         ["", "1", "", "", "1", "0"])
        self.assertEqual([slow.hear("1"), slow.amid, slow.hear("1"), slow.end, slow.amid], ["", "01", "1", "11", ""])
        refuses(self, Refused(0), slow.hear, "1")
        refuses(self, Refused(1), slow.hear, "00")
        self.assertEqual([slow.hear("010"), slow.content, slow.heard], ["0", "10", "1011010"])

    def test_values(self):
        receiver = Receiver(LONG, SLOW)
        receiver.hear("10")
        before = state(receiver)
        for value in others(lambda value: is_text(value, "01")):
            refuses(self, BadSent(value), receiver.hear, value)
            self.assertEqual(state(receiver), before)


class MadeTest(unittest.TestCase):

    def test_errors_in_order(self):
        for station in (Sender, Receiver):
            for value in others(lambda value: isinstance(value, Setting)):
                refuses(self, BadLink("setting"), station, value, None)
            for value in values():
                refuses(self, BadLink("table"), station, LINE, value)
            for moves in ({}, {"": PLAIN}, {"": PLAIN, "1": PLAIN, "11": PLAIN}, {"": Put("0")}):
                refuses(self, BadLink("table"), station, LINE, Table(moves))
            self.assertTrue(issubclass(station, Station))
            self.assertEqual(station(LINE, LATE.with_move("7", PLAIN)).way["7"], PLAIN)

    def test_tables_by_a_plain_search(self):
        draw = random.Random(179)
        many = [0, 0]
        for setting in some_settings(60) + mixed_settings(60):
            for table in some_tables(draw, setting, 3):
                right = sends_all(setting, dict(table.moves))
                many[right] += 1
                for station in (Sender, Receiver):
                    if right:
                        self.assertEqual(station(setting, table).end, setting.start)
                    else:
                        refuses(self, BadLink("table"), station, setting, table)
        self.assertGreater(min(many), 30)

    def test_attributes_are_set_on_each_object(self):
        self.assertTrue({"setting", "end", "content", "sent", "price"} <= set(vars(Sender(LINE, LATE))))
        self.assertTrue({"setting", "end", "content", "heard"} <= set(vars(Receiver(LINE, LATE))))


class WayTest(unittest.TestCase):

    def test_other_tables_at_all_ends(self):
        draw = random.Random(181)
        many = [0, 0]
        for setting, tables in some_ways(60, 191):
            rows = tables + some_tables(draw, setting, 4)
            for content in draw.sample(texts(setting.bars.signs, 4), 8):
                sender, receiver = Sender(setting, tables[0]), Receiver(setting, tables[0])
                receiver.hear(sender.send(content))
                for table in rows:
                    right = sends_all(setting.with_start(sender.end), dict(table.moves))
                    many[right] += 1
                    for station in (sender, receiver):
                        before = state(station)
                        if not right:
                            refuses(self, BadLink("table"), station.use, table)
                            self.assertEqual(state(station), before)
                            continue
                        self.assertIsNone(station.use(table))
                        self.assertEqual((station.way, list(station)[-1]), (table, "table"))
                        self.assertEqual(state(station)[:4], before[:4])
                    if right:
                        end, more = sender.end, draw.choice(texts(setting.bars.signs, 3))
                        sent, behind = plain_sent(setting, dict(table.moves), end, more)
                        self.assertEqual((sender.send(more), sender.end), (sent, behind))
                        self.assertEqual((receiver.hear(sent), receiver.end), (more, behind))
        self.assertGreater(min(many), 100, str(many))

    def test_the_setter(self):
        sender = Sender(LINE, LATE)
        sender.way = EAGER
        self.assertEqual((sender.way, list(sender)), (EAGER, ["table"]))
        sender.send("1")
        for value in others(lambda value: False):
            for station in (sender, Receiver(LINE, LATE)):
                before = state(station)
                with self.assertRaises(BadLink) as caught:
                    station.way = value
                self.assertEqual((caught.exception.part, state(station)), ("table", before))
                refuses(self, BadLink("table"), station.use, value)
        self.assertEqual(sender.way, EAGER)

    def test_a_table_for_this_end_alone(self):
        sender = Sender(Setting(Bars("01", "111", "00")), Table({"": PLAIN, "0": Put("1"), "1": PLAIN, "11": Put("0")}))
        sender.send("1")
        only = Table({"1": Put("0"), "0": Put("1"), "": PLAIN})
        refuses(self, BadLink("table"), sender.use, only)
        only = Table({"1": PLAIN, "0": Put("1"), "11": Put("0")})
        sender.use(table=only)
        refuses(self, BadLink("table"), Sender, sender.setting, only)
        self.assertEqual((sender.send("10"), sender.twin().way), ("1010", only))
        self.assertEqual(sender.twin(), sender)

    def test_amid(self):
        receiver = Receiver(LONG, SLOW)
        receiver.use(SLOW)
        receiver.hear("1")
        receiver.use(SLOW)
        receiver.hear("0")
        before = state(receiver)
        refuses(self, BadLink("amid"), receiver.use, SLOW)
        refuses(self, BadLink("amid"), receiver.use, LATE)
        refuses(self, BadLink("table"), receiver.use, Table({}))
        refuses(self, BadLink("table"), receiver.use, None)
        self.assertEqual(state(receiver), before)
        receiver.hear("10")
        receiver.use(LATE)
        self.assertEqual(receiver.hear("01"), "01")

    def test_between_puts_the_rest_is_not_sent(self):
        setting = Setting(Bars("01", "111"))
        puts = Table({"": PLAIN, "1": Put("0"), "0": PLAIN})
        two = Setting(Bars("012", "0000", "0122"), None, None, "")
        plain = Code.plain("012")
        rows = Table({"": plain, "0": plain, "00": Put("0"), "000": Put("1"), "01": plain, "012": Put("0")})
        receiver = Receiver(two, rows)
        self.assertEqual([receiver.hear("00"), receiver.hear("0"), receiver.end], ["00", "", "000"])
        receiver.use(rows.with_move("000", Put("2")))
        self.assertEqual([receiver.hear("21"), receiver.content], ["1", "001"])
        self.assertEqual(Receiver(setting, puts.with_move("1", Put("0"))).hear("10"), "1")


class UndoTest(unittest.TestCase):

    def test_back_to_the_start(self):
        draw = random.Random(193)
        for setting, tables in some_ways(50, 197):
            for station in (Sender(setting, tables[0]), Receiver(setting, tables[0])):
                states = [state(station)]
                peer = Sender(setting, tables[0])
                text = peer.send("".join(draw.choice(setting.bars.signs) for _ in range(12)))
                at = 0
                for _ in range(14):
                    kind = draw.choice(["say", "say", "table", "undo", "wrong"])
                    if kind == "say" and isinstance(station, Sender):
                        station.send(draw.choice(texts(setting.bars.signs, 3)))
                    elif kind == "say":
                        many = draw.randint(0, 3)
                        station.hear(text[len(station.heard):len(station.heard) + many])
                    elif kind == "table" and (isinstance(station, Sender) or station.amid == ""):
                        station.use(station.way)
                    elif kind == "undo" and len(states) > 1:
                        word = list(station)[-1]
                        self.assertEqual(station.undo(), word)
                        states.pop()
                        self.assertEqual(state(station), states[-1])
                        continue
                    else:
                        refuses(self, BadLink("table"), station.use, at)
                        continue
                    states.append(state(station))
                    self.assertEqual(len(station), len(states) - 1)
                while len(states) > 1:
                    station.undo()
                    states.pop()
                    self.assertEqual(state(station), states[-1])
                refuses(self, NoChange(), station.undo)
                self.assertEqual(state(station), states[0])

    def test_words(self):
        sender, receiver = Sender(LINE, LATE), Receiver(LINE, LATE)
        self.assertEqual([bool(sender), list(sender)], [False, []])
        sender.send("")
        sender.use(LATE)
        sender.send("11")
        receiver.hear("")
        receiver.way = EAGER
        self.assertEqual([list(sender), list(receiver), bool(sender)],
                         [["send", "table", "send"], ["hear", "table"], True])
        self.assertEqual([sender.undo(), sender.undo(), sender.undo(), receiver.undo(), receiver.undo()],
                         ["send", "table", "send", "table", "hear"])
        self.assertEqual((receiver.way, len(receiver), len(sender)), (LATE, 0, 0))
        refuses(self, NoChange(), sender.undo)
        words = list(receiver)
        words.append("hear")
        self.assertEqual(len(receiver), 0)

    def test_behind_an_undo_it_goes_on(self):
        sender = Sender(LINE, LATE)
        sender.send("11")
        sender.use(EAGER.with_move("11", Put("0")))
        sender.send("1")
        sender.undo()
        self.assertEqual(sender.send("11"), "0101")
        for _ in range(2):
            sender.undo()
        self.assertEqual([sender.send("11"), sender.sent], ["011", "11011"])


class TrialTest(unittest.TestCase):

    def stations(self):
        """Stations that did something."""
        sender, receiver = Sender(LINE, LATE), Receiver(LONG, SLOW)
        sender.send("011")
        receiver.hear("10")
        return [sender, receiver]

    def change(self, station):
        """Do some deeds, and undo more than these."""
        while len(station):
            station.undo()
        station.use(LATE)
        said(station)
        said(station)

    def test_without_keep(self):
        for station in self.stations():
            before = state(station)
            with station.trial() as same_one:
                self.assertIs(same_one.station, station)
                self.change(station)
                self.assertNotEqual(state(station), before)
            self.assertEqual(state(station), before)
            with station.trial():
                pass
            self.assertEqual(state(station), before)

    def test_with_keep(self):
        for station in self.stations():
            with station.trial() as same_one:
                self.assertIsNone(same_one.keep())
                self.change(station)
                within = state(station)
            self.assertEqual(state(station), within)
            station.undo()
            self.assertEqual(len(station), 2)

    def test_with_errors(self):
        for station in self.stations():
            before = state(station)
            for error in (Raised, NoChange, KeyError, GeneratorExit):
                with self.assertRaises(error):
                    with station.trial() as same_one:
                        self.change(station)
                        same_one.keep()
                        raise error()
                self.assertEqual(state(station), before)

    def test_errors_that_are_caught_within(self):
        for station in self.stations():
            with station.trial() as same_one:
                refuses(self, BadLink("table"), station.use, None)
                self.change(station)
                same_one.keep()
                within = state(station)
            self.assertEqual(state(station), within)

    def test_entered_again_behind_its_block(self):
        for station in self.stations():
            before = state(station)
            trial = station.trial()
            with trial as same_one:
                self.change(station)
                same_one.keep()
            within = state(station)
            self.assertNotEqual(within, before)
            with trial:
                said(station)
            self.assertEqual(state(station), within)
            with self.assertRaises(Raised):
                with trial:
                    said(station)
                    raise Raised()
            self.assertEqual(state(station), within)

    def test_entered_within_its_own_block(self):
        for keeps in ((), ("inner",), ("outer",), ("ahead",), ("inner", "outer"), ("ahead", "inner")):
            for station in self.stations():
                start = state(station)
                trial = station.trial()
                with trial as outer:
                    said_at = self.change(station)
                    self.assertIsNone(said_at)
                    if "ahead" in keeps:
                        trial.keep()
                    between = state(station)
                    with trial as inner:
                        self.assertIs(inner, outer)
                        said(station)
                        station.undo()
                        station.undo()
                        within = state(station)
                        if "inner" in keeps:
                            trial.keep()
                    behind = within if "inner" in keeps else between
                    self.assertEqual(state(station), behind)
                    if "outer" in keeps:
                        trial.keep()
                kept = "outer" in keeps or "ahead" in keeps
                self.assertEqual(state(station), behind if kept else start)

    def test_an_error_leaves_the_inner_block_alone(self):
        for station in self.stations():
            trial = station.trial()
            with trial:
                self.change(station)
                between = state(station)
                with self.assertRaises(Raised):
                    with trial:
                        said(station)
                        trial.keep()
                        raise Raised()
                self.assertEqual(state(station), between)
                trial.keep()
            self.assertEqual(state(station), between)

    def test_two_trials_of_one_station(self):
        for station in self.stations():
            before = state(station)
            with station.trial() as outer:
                self.change(station)
                with station.trial() as inner:
                    said(station)
                    inner.keep()
                    within = state(station)
                self.assertEqual(state(station), within)
                outer.keep()
            self.assertEqual(state(station), within)
            with station.trial():
                said(station)
                with station.trial() as inner:
                    said(station)
                    inner.keep()
            self.assertEqual(state(station), within)
            self.assertNotEqual(within, before)

    def test_what_it_sends_behind_a_block(self):
        sender = Sender(LINE, LATE)
        sender.send("11")
        with sender.trial():
            sender.use(EAGER.with_move("11", Put("0")))
            sender.send("11")
        self.assertEqual([sender.send("11"), sender.price], ["011", 5])
        receiver = Receiver(LONG, SLOW)
        receiver.hear("10")
        with receiver.trial():
            receiver.hear("10")
            receiver.use(LATE)
        self.assertEqual([receiver.hear("11"), receiver.amid], ["1", ""])


class WorkTest(unittest.TestCase):

    def stations(self):
        return TrialTest().stations()

    def change(self, station):
        TrialTest().change(station)
        return [station, "done"]

    def test_tried(self):
        for station in self.stations():
            before = state(station)
            self.assertEqual(station.tried(self.change), [station, "done"])
            self.assertEqual(state(station), before)
            self.assertIsNone(station.tried(work=lambda it: None))
            for error in (Raised(), BadLink("x"), Stuck("1"), KeyError("k")):
                with self.assertRaises(type(error)) as caught:
                    station.tried(raises(error))
                self.assertIs(caught.exception, error)
                self.assertEqual(state(station), before)

    def test_attempt(self):
        for station in self.stations():
            found = station.attempt(self.change)
            self.assertTrue(found[0] is station and found[1] == "done")
            self.assertEqual((len(station), station.content), (3, "00"))
            station.undo()
            self.assertEqual((len(station), station.content), (2, "0"))
            self.assertEqual(station.attempt(work=lambda it: len(it)), 2)

    def test_attempt_with_errors(self):
        for station in self.stations():
            station.attempt(self.change)
            before = state(station)
            for error in (BadLink("x"), Stuck("1"), NoChange(), FlagError("y")):
                raised = refuses(self, BadLink("work"), station.attempt, raises(error))
                self.assertIs(raised.__cause__, error)
                self.assertEqual(state(station), before)
            for error in (Raised(), KeyError("k"), ValueError("v"), GeneratorExit()):
                with self.assertRaises(type(error)) as caught:
                    station.attempt(raises(error))
                self.assertIs(caught.exception, error)
                self.assertEqual(state(station), before)

    def test_deep_works(self):
        for station in self.stations():
            station.attempt(self.change)
            before = state(station)

            def inner(it):
                said(it)
                it.tried(self.change)
                it.attempt(said)
                return it.undo()

            self.assertEqual(station.attempt(inner), "send" if isinstance(station, Sender) else "hear")
            self.assertEqual(len(station), before[-1] + 1)
            with self.assertRaises(BadLink) as caught:
                station.attempt(lambda it: it.attempt(raises(Stuck("0"))))
            self.assertEqual(caught.exception.__cause__.part, "work")
            self.assertEqual(caught.exception.__cause__.__cause__.end, "0")


class TwinTest(unittest.TestCase):

    def test_goes_its_own_way(self):
        for station in TrialTest().stations():
            before = state(station)
            twin = station.twin()
            self.assertIs(type(twin), type(station))
            self.assertEqual((state(twin)[:5], list(twin), len(twin)), (before[:5], [], 0))
            self.assertTrue(twin == station)
            refuses(self, NoChange(), twin.undo)
            twin.attempt(lambda it: it.send("1") if isinstance(it, Sender) else it.hear("11"))
            self.assertEqual(state(station), before)
            self.assertFalse(twin == station)
            station.undo()
            self.assertEqual(twin.content[-1], "1")

    def test_a_twin_of_a_twin(self):
        sender = Sender(LINE, LATE)
        sender.use(EAGER)
        twin = sender.twin().twin()
        self.assertEqual([twin.send("11"), sender.send("11"), twin == sender], ["101", "101", True])

    def test_equality(self):
        sender, receiver = Sender(LINE, LATE), Receiver(LINE, LATE)
        self.assertFalse(sender == receiver or receiver == sender)
        self.assertTrue(sender == Sender(LINE, LATE) and receiver == Receiver(LINE, LATE))
        self.assertFalse(sender == Sender(LINE, LATE.with_move("7", PLAIN)))
        self.assertFalse(sender == Sender(LINE.with_prices(Prices("01", {"0": 2})), LATE))
        other = Sender(LINE, LATE)
        other.use(LATE)
        other.send("")
        self.assertTrue(sender == other)
        other.send("0")
        self.assertTrue(sender.end == other.end and sender != other)
        sender.send("1")
        self.assertFalse(sender == other)
        for value in values():
            self.assertFalse(sender == value or receiver == value)

    def test_amid_plays_no_part(self):
        setting = Setting(Bars("01", "000"), Menu("01", PLAIN, Code({"0": "10", "1": "11"}), Put("1")))
        whole = Table({"": PLAIN, "0": PLAIN, "00": Put("1")})
        amid = Receiver(setting, Table({"": Code({"0": "10", "1": "11"}), "0": PLAIN, "00": Put("1")}))
        amid.hear("1")
        self.assertEqual((amid.amid, amid.end, amid.content, amid.heard), ("1", "", "", "1"))
        twin = amid.twin()
        self.assertTrue(twin == amid and twin.amid == "1")
        self.assertEqual([twin.hear("0"), amid.hear("1"), twin == amid], ["0", "1", False])
        self.assertFalse(Receiver(setting, whole) == amid)

    def test_the_same_sent_for_other_contents(self):
        turn = Code({"0": "1", "1": "0"})
        setting = Setting(Bars("01"), Menu("01", PLAIN, turn, Put("1")))
        one, two = Sender(setting, Table({"": turn})), Sender(setting, Table({"": PLAIN}))
        one.send("01")
        two.send("10")
        one.use(Table({"": PLAIN}))
        self.assertEqual((one.sent, one.end, one.price, one.way), (two.sent, two.end, two.price, two.way))
        self.assertFalse(one == two)
        heard = Receiver(setting, Table({"": turn})), Receiver(setting, Table({"": PLAIN}))
        for receiver in heard:
            receiver.hear("10")
            receiver.use(Table({"": PLAIN}))
        self.assertFalse(heard[0] == heard[1])

    def test_the_same_heard_to_other_ends(self):
        long = Code({"0": "10", "1": "11"})
        setting = Setting(Bars("01", "000", "111"), Menu("01", PLAIN, long, Put("0"), Put("1")))
        told = Table({"": long, "1": Put("0"), "11": Put("0"), "0": PLAIN, "00": Put("1")})
        one, two = Receiver(setting, told), Receiver(setting, told.with_move("", Put("1")))
        one.hear("1")
        two.hear("1")
        two.use(told)
        self.assertEqual((one.heard, one.content, one.way), (two.heard, two.content, two.way))
        self.assertEqual((one.end, two.end, one == two), ("", "1", False))

    def test_what_was_sent_otherwise(self):
        three = Setting(Bars("012", "00"))
        plain = Code.plain("012")
        one, two = (Sender(three, Table({"": plain, "0": Put(sign)})) for sign in "12")
        one.send("00")
        two.send("00")
        two.send("1")
        one.send("1")
        self.assertEqual((one.content, one.end, one.price), (two.content, two.end, two.price))
        one.use(Table({"": plain, "0": Put("2")}))
        self.assertEqual(one.way, two.way)
        self.assertFalse(one == two)


if __name__ == "__main__":
    unittest.main()
