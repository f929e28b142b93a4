"""Coding: what a rule sends for a content, and the content for which it sends a text."""

from flagfree.errors import BadContent, BadMove, BadRule, BadSent, NoEnd, Refused, Stuck, TooMany
from flagfree.moves import Put
from flagfree.rules import Rule
from flagfree.settings import check_setting, told_outcomes
from flagfree.signs import is_text

MOST_PUTS = 100


class Step:
    """A paper: a move that was made, the content sign, what was sent by it, and its price."""

    def __init__(self, move, sign, text, price):
        self.move = move
        self.sign = sign
        self.text = text
        self.price = price

    def __eq__(self, other):
        return (isinstance(other, Step) and self.move == other.move and self.sign == other.sign
                and self.text == other.text and self.price == other.price)


def check_rule(rule):
    """See that this is a Rule."""
    if not isinstance(rule, Rule):
        raise BadRule("rule")


def check_coding(rule, setting):
    """See that these are a Rule and a Setting."""
    check_rule(rule)
    check_setting(setting)


def told_move(rule, text, at, end, setting):
    """The move of the menu that a rule tells behind the first signs of a text, so many, with this end."""
    move = rule.tell(text, at, end, setting)
    if move is None:
        raise Stuck(end) from NoEnd(end)
    if move not in setting.menu:
        raise Stuck(end) from BadMove("menu")
    return move


def end_of_put(move, end, setting):
    """The end behind a put."""
    behind = setting.bars.onward(end, move.sign)
    if behind is None:
        raise Stuck(end)
    return behind


def steps(rule, setting, content):
    """The moves that a rule makes for a content, one by one."""
    check_coding(rule, setting)
    if not is_text(content, setting.bars.signs):
        raise BadContent(content)
    sent = ""
    end = setting.start
    for sign in content:
        puts = 0
        move = told_move(rule, sent, len(sent), end, setting)
        while isinstance(move, Put):
            end = end_of_put(move, end, setting)
            puts = puts + 1
            if puts > MOST_PUTS:
                raise TooMany("puts", MOST_PUTS)
            sent = sent + move.sign
            yield Step(move, None, move.sign, setting.prices.price_of(move.sign))
            move = told_move(rule, sent, len(sent), end, setting)
        behind = setting.bars.onward(end, move[sign])
        if behind is None:
            raise Stuck(end)
        end = behind
        sent = sent + move[sign]
        yield Step(move, sign, move[sign], setting.prices.cost(move[sign]))


def coded(rule, setting, content):
    """The text that a rule sends for a content."""
    return "".join([step.text for step in steps(rule, setting, content)])


def paid(rule, setting, content):
    """The price at which a rule sends a content."""
    return sum([step.price for step in steps(rule, setting, content)])


def refused_at(text, at, words):
    """The index of the first sign of a text, from an index on, with which none of some words goes on."""
    for k in range(at, len(text)):
        if not any([word.startswith(text[at:k + 1]) for word in words]):
            return k
    return len(text)


def heard(rule, setting, text):
    """The pair of the content of a text and None, or of what was heard and the index that is refused."""
    content = ""
    end = setting.start
    at = 0
    puts = 0
    while at < len(text):
        move = told_move(rule, text, at, end, setting)
        if isinstance(move, Put):
            end = end_of_put(move, end, setting)
            puts = puts + 1
            if puts > MOST_PUTS:
                raise TooMany("puts", MOST_PUTS)
            if text[at] != move.sign:
                return content, at
            at = at + 1
        else:
            puts = 0
            fit = [outcome for outcome in told_outcomes(setting.bars, end, move) if outcome[2] is not None]
            fitting = [outcome for outcome in fit if text.startswith(outcome[1], at)]
            if len(fitting) == 0:
                return content, refused_at(text, at, [word for _, word, _ in fit])
            sign, word, end = fitting[0]
            content = content + sign
            at = at + len(word)
    return content, None if puts == 0 else at


def decoded(rule, setting, text):
    """The content for which a rule sends a text."""
    check_coding(rule, setting)
    if not is_text(text, setting.bars.signs):
        raise BadSent(text)
    content, refused = heard(rule, setting, text)
    if refused is not None:
        raise Refused(refused)
    return content


def is_coding(rule, setting, text):
    """Whether a value is the text that a rule sends for some content."""
    check_coding(rule, setting)
    if not is_text(text, setting.bars.signs):
        return False
    _, refused = heard(rule, setting, text)
    return refused is None
