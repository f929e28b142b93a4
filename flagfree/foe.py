"""The foe: it tells the content to a rule so that the rule pays as much as any one must, or is caught."""

from flagfree.coding import MOST_PUTS, check_rule, told_move
from flagfree.errors import BadMove, BadNumber, BadSent
from flagfree.games import outcomes_of
from flagfree.least import least
from flagfree.look_least import row_holds
from flagfree.moves import Put
from flagfree.settings import check_setting
from flagfree.signs import is_integer, is_text
from flagfree.traps import Trap, rounds

MOST_WEIGHT = 1000


class Game:
    """A paper: a content that was told, what a rule sent for it, and its price."""

    def __init__(self, content, sent, price):
        self.content = content
        self.sent = sent
        self.price = price

    def __eq__(self, other):
        return (isinstance(other, Game) and self.content == other.content and self.sent == other.sent
                and self.price == other.price)


class Caught:
    """A false paper: a content that was told, what a rule sent for it, and why it was caught."""

    def __init__(self, content, sent, why):
        self.content = content
        self.sent = sent
        self.why = why

    def __eq__(self, other):
        return (isinstance(other, Caught) and self.content == other.content and self.sent == other.sent
                and self.why == other.why)

    def __bool__(self):
        return False


class Course:
    """What a rule sends from the start of a setting on, while content is told to it sign by sign.

    why is None until the rule is caught.
    """

    def __init__(self, setting, rule):
        self.setting = setting
        self.rule = rule
        self.content = ""
        self.sent = ""
        self.price = 0
        self.end = setting.start
        self.why = None

    def _send(self, text):
        """Send a text, that of a put or the word of a code."""
        self.price = self.price + self.setting.prices.cost(text)
        self.sent = self.sent + text
        self.end = self.setting.bars.onward(self.end, text)
        if self.end is None:
            self.why = "word"

    def next_code(self):
        """Go on by puts to the code that the rule tells, which is returned; None if the rule is caught ahead of it."""
        puts = 0
        while self.why is None:
            move = told_move(self.rule, self.sent, len(self.sent), self.end, self.setting)
            if not isinstance(move, Put):
                return move
            self._send(move.sign)
            puts = puts + 1
            if puts > MOST_PUTS and self.why is None:
                self.why = "puts"
        return None

    def tell(self, code, sign):
        """Tell a content sign to a rule that told this code."""
        self.content = self.content + sign
        self._send(code[sign])


class Foe:
    """Tells the content to rules, by the numbers that force the least rate and by the rounds of the lost ends."""

    def __init__(self, setting):
        check_setting(setting)
        self.setting = setting
        self.found = least(setting)
        self._rounds = rounds(setting)

    def next_sign(self, sent, move):
        """The content sign for a rule that tells this move behind this text, None for a put."""
        end = self.setting.bars.behind(self.setting.start, sent)
        if end is None:
            raise BadSent(sent)
        if move not in self.setting.menu:
            raise BadMove("menu")
        if isinstance(move, Put):
            return None
        return self._sign_for(end, move)

    def _sign_for(self, end, code):
        """The content sign for a rule that tells this code at this end."""
        outcomes = outcomes_of(self.setting, end, code)
        barred = [sign for sign, _, _, behind in outcomes if behind is None]
        if len(barred) > 0:
            return barred[0]
        losing = [(sign, self._rounds[behind]) for sign, _, _, behind in outcomes if behind in self._rounds]
        if len(losing) > 0:
            least_round = min([int(one) for _, one in losing])
            return [sign for sign, one in losing if one == least_round][0]
        return self._dear_sign(end, outcomes)

    def _dear_sign(self, end, outcomes):
        """The least sign for which the number of an end forces the rate, the least of all where it has none."""
        if not isinstance(self.found, Trap) and end in self.found.against:
            number = self.found.against[end]
            for outcome in outcomes:
                if row_holds(outcome, self.found.rate, number, self.found.against):
                    return outcome[0]
        return outcomes[0][0]

    def _turn(self, course):
        """Let a rule go on to its next code, and tell a sign to it; whether it is not caught."""
        code = course.next_code()
        if code is not None:
            course.tell(code, self._sign_for(course.end, code))
        return course.why is None

    def walk(self, rule):
        """The triples (content, text, price) behind each content sign, until the rule is caught."""
        check_rule(rule)
        course = Course(self.setting, rule)
        while self._turn(course):
            yield (course.content, course.sent, course.price)

    def play(self, rule, weight):
        """The Game in which the content weighs so much, or a Caught if the rule is caught ahead of it."""
        check_rule(rule)
        if not is_integer(weight) or weight < 1 or weight > MOST_WEIGHT:
            raise BadNumber(weight)
        course = Course(self.setting, rule)
        weighed = 0
        while weighed < weight:
            if not self._turn(course):
                return Caught(course.content, course.sent, course.why)
            weighed = weighed + self.setting.prices.weight_of(course.content[-1])
        return Game(course.content, course.sent, course.price)

    def floor(self, weight):
        """The least price of a Game of this weight that does not end at a lost end, None if no rule has such games."""
        if not is_integer(weight) or weight < 0:
            raise BadNumber(weight)
        if isinstance(self.found, Trap):
            return None
        rate = self.found.rate
        greatest = max([int(number) for number in self.found.against.values()])
        return max(0, -((greatest - rate.price * weight) // rate.weight))


def course_of(setting, rule, content):
    """What a rule sends for a content, until it is caught."""
    course = Course(setting, rule)
    for sign in content:
        code = course.next_code()
        if code is None:
            return course
        course.tell(code, sign)
    return course


def shows_game(setting, rule, value):
    """Whether a value is a Game or a Caught that a rule plays when it is told its content."""
    check_setting(setting)
    check_rule(rule)
    if not isinstance(value, (Game, Caught)) or not is_text(value.content, setting.bars.signs):
        return False
    course = course_of(setting, rule, value.content)
    if isinstance(value, Game):
        if course.why is not None or not is_integer(value.price):
            return False
        return course.sent == value.sent and course.price == value.price
    # Where the rule is caught already, it is not asked on.
    if course.next_code() is not None:
        return False
    return course.content == value.content and course.sent == value.sent and course.why == value.why
