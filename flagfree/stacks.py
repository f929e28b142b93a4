"""Stacks: what the table of one layer sends is the content of the layer outside of it."""

from flagfree.coding import heard
from flagfree.errors import BadContent, BadLayer, BadSent, BadSetting, BadTable, TooMany
from flagfree.prices import Rate
from flagfree.rates import Worst, contents_to, turned, worst
from flagfree.rings import gone, graph_from, greatest_ring
from flagfree.settings import Setting
from flagfree.signs import is_integer, is_text
from flagfree.turns import turns_of

MOST_LAYERS = 3
MOST_TUPLES = 2000


class Layer:
    """A setting, and a table that sends all contents in it."""

    def __init__(self, setting, table):
        if not isinstance(setting, Setting):
            raise BadSetting("setting")
        turns = turns_of(setting, table)
        if turns is None:
            raise BadTable("table")
        self.setting = setting
        self.table = table
        self._turns = turns

    def __eq__(self, other):
        return isinstance(other, Layer) and self.setting == other.setting and self.table == other.table

    def sent_from(self, end, content):
        """What is sent for a content from an end on, and the end behind it."""
        sent = []
        for sign in content:
            text, _, end = self._turns[end][sign]
            sent.append(text)
        return "".join(sent), end

    def content_of(self, text):
        """The content for which a text is sent, None if there is none."""
        content, refused = heard(self.table, self.setting, text)
        return content if refused is None else None


def check_layers(layers):
    """See that some values are the layers of a stack."""
    for at, layer in enumerate(layers):
        if not isinstance(layer, Layer):
            raise BadLayer(at)
    if len(layers) == 0:
        raise BadLayer(0)
    if len(layers) > MOST_LAYERS:
        raise TooMany("layers", MOST_LAYERS)
    if not all([layer.setting.bars.signs == layers[0].setting.bars.signs for layer in layers]):
        raise BadSetting("signs")


def layer_outcomes(layers, ends):
    """The outcomes (content sign, price, weight, tuple of ends behind) of a tuple of ends."""
    prices = layers[-1].setting.prices
    weights = layers[0].setting.prices
    found = []
    for sign in layers[0].setting.bars.signs:
        text = sign
        behind = []
        for layer, end in zip(layers, ends):
            text, end_behind = layer.sent_from(end, text)
            behind.append(end_behind)
        found.append((sign, prices.cost(text), weights.weight_of(sign), tuple(behind)))
    return found


def stack_graph(stack):
    """The graph [rings.py] of the tuples of ends that come behind contents."""
    layers = stack.layers
    graph = graph_from(stack.ends_behind(""), lambda ends: layer_outcomes(layers, ends), MOST_TUPLES)
    if graph is None:
        raise TooMany("tuples", MOST_TUPLES)
    return graph


class Stack:
    """Some layers, the innermost one first."""

    def __init__(self, *layers):
        check_layers(layers)
        self.layers = layers

    def __len__(self):
        return len(self.layers)

    def __iter__(self):
        return iter(self.layers)

    def __getitem__(self, at):
        return self.layers[at]

    def __add__(self, other):
        if isinstance(other, Layer):
            return Stack(*self.layers, other)
        if not isinstance(other, Stack):
            raise BadLayer("other")
        return Stack(*self.layers, *other.layers)

    def __eq__(self, other):
        return isinstance(other, Stack) and self.layers == other.layers

    def _gone(self, content):
        """What the outermost layer sends for a content, and the tuple of the ends behind."""
        if not is_text(content, self.layers[0].setting.bars.signs):
            raise BadContent(content)
        ends = []
        for layer in self.layers:
            content, end = layer.sent_from(layer.setting.start, content)
            ends.append(end)
        return content, tuple(ends)

    def coded(self, content):
        """What the outermost layer sends for a content."""
        text, _ = self._gone(content)
        return text

    def paid(self, content):
        """The price of what the outermost layer sends for a content."""
        return self.layers[-1].setting.prices.cost(self.coded(content))

    def decoded(self, text):
        """The content for which the outermost layer sends a text."""
        if not is_text(text, self.layers[0].setting.bars.signs):
            raise BadSent(text)
        content = text
        for layer in reversed(list(self.layers)):
            content = layer.content_of(content)
            if content is None:
                raise BadSent(text)
        return content

    def ends_behind(self, content):
        """The ends at which the layers stand behind a content, the innermost first."""
        _, ends = self._gone(content)
        return ends

    def worst(self):
        """The Worst of the whole stack: the greatest rate that it pays in the long run."""
        graph = stack_graph(self)
        contents = contents_to(graph, self.ends_behind(""))
        rate, numbers, found = greatest_ring(graph)
        ring = turned(found, contents)
        return Worst(rate, numbers, contents[ring[0][0]], "".join([outcome[0] for _, outcome in ring]))

    def product(self):
        """The product of the worst rates of the layers."""
        rate = Rate(1)
        for layer in self.layers:
            rate = rate * worst(layer.setting, layer.table).rate
        return rate

    @property
    def is_matched(self):
        """Whether each setting but the first one weighs each sign as the one ahead of it prices it."""
        prices = [layer.setting.prices for layer in self.layers]
        return all([prices[k].weight_of(sign) == prices[k - 1].price_of(sign)
                    for k in range(1, len(prices)) for sign in prices[k].signs])


def are_kept(graph, rate, numbers):
    """Whether a value is a dict from just the nodes of a graph to integers from 0 that keep a rate."""
    if not isinstance(numbers, dict) or len(numbers) != len(graph):
        return False
    if not all([node in numbers and is_integer(numbers[node]) and numbers[node] >= 0 for node in graph]):
        return False
    return all([numbers[node] >= rate.weight * price - rate.price * weight + numbers[behind]
                for node in graph for _, price, weight, behind in graph[node]])


def shows_stack(stack, value):
    """Whether a value is a Worst whose numbers and whose ring both show the rate of a stack."""
    if not isinstance(stack, Stack):
        raise BadLayer("stack")
    graph = stack_graph(stack)
    if not isinstance(value, Worst) or not isinstance(value.rate, Rate):
        return False
    if not are_kept(graph, value.rate, value.numbers):
        return False
    setting = stack.layers[0].setting
    signs = setting.bars.signs
    if not is_text(value.begin, signs) or not is_text(value.ring, signs) or value.ring == "":
        return False
    _, ends = gone(graph, stack.ends_behind(""), value.begin)
    price, behind = gone(graph, ends, value.ring)
    return behind == ends and price * value.rate.weight == value.rate.price * setting.prices.weigh(value.ring)
