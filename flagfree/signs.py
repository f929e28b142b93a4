"""What counts as a sign, an alphabet, a text, a word, an integer, an exchange of signs."""

SIGNS = "0123456789abcdefghijklmnopqrstuvwxyz"


def is_integer(value):
    """Whether a value is an int that is not a bool."""
    return isinstance(value, int) and not isinstance(value, bool)


def is_text(value, signs):
    """Whether a value is a string of some signs alone."""
    return isinstance(value, str) and value.strip(signs) == ""


def is_word(value, signs, most):
    """Whether a value is a string of 1 to so many of some signs."""
    return is_text(value, signs) and 1 <= len(value) <= most


def is_sign(value, signs):
    """Whether a value is one of some signs."""
    return isinstance(value, str) and len(value) == 1 and value in signs


def is_alphabet(value):
    """Whether a value is a string of 2 to 4 unlike signs, ascending."""
    if not is_word(value, SIGNS, 4) or len(value) < 2:
        return False
    return all([value[k] < value[k + 1] for k in range(len(value) - 1)])


def are_unlike(words):
    """Whether no two of some strings are alike."""
    return len({word: True for word in words}) == len(words)


def is_swap(table, signs):
    """Whether a value is a dict from some of these signs to some of them, no two alike."""
    if not isinstance(table, dict):
        return False
    pairs = list(table.items())
    if not all([is_sign(key, signs) and is_sign(value, signs) for key, value in pairs]):
        return False
    return are_unlike([value for _, value in pairs])


def is_exchange(table, signs):
    """Whether a value is a dict from each sign of an alphabet to one of it, no two alike."""
    return is_swap(table, signs) and len(table) == len(signs)


def exchanged(text, table):
    """A text with each of its signs exchanged."""
    return "".join([table[sign] for sign in text])


def holds_some(text, words):
    """Whether some of the words stands in a text."""
    return any([word in text for word in words])
