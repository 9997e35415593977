"""What counts as a name, an integer, a row and a result."""

MAX_DIGITS = 60
MAX_COLUMNS = 6
_MAX_LETTERS = 8
_MAX_ENTRIES = 5
_LETTERS = "abcdefghijklmnopqrstuvwxyz"
# The least integer that has more than MAX_DIGITS digits.
_TOO_LONG = 10 ** 60


def is_name(value):
    """Whether the value is a string of one to eight letters a to z."""
    if not isinstance(value, str) or not 1 <= len(value) <= _MAX_LETTERS:
        return False
    return all([letter in _LETTERS for letter in value])


def is_integer(value):
    """Whether the value is an integer of at most sixty digits."""
    return isinstance(value, int) and not isinstance(value, bool) and abs(value) < _TOO_LONG


def is_row(value):
    """Whether the value is a row of some table."""
    return is_tuple(value, 1, MAX_COLUMNS) and all([is_integer(entry) for entry in value])


def is_result(value):
    """Whether the value is a tuple of keys, the last one of several perhaps None."""
    if not is_tuple(value, 1, _MAX_ENTRIES):
        return False
    has_gap = len(value) > 1 and value[-1] is None
    given = value[:-1] if has_gap else value
    return all([is_key(entry) for entry in given])


def is_key(value):
    """Whether the value is an integer that a row can have as its key."""
    return is_integer(value) and value >= 1


def is_many(value):
    """Whether the value is an integer that tells how many."""
    return is_integer(value) and value >= 0


def is_tuple(value, least, most):
    """Whether the value is a tuple of at least and at most so many entries."""
    return isinstance(value, tuple) and least <= len(value) <= most


def ascends(values):
    """Whether a tuple of values that can be compared is strictly ascending."""
    return all([one < other for one, other in zip(values, values[1:])])


def is_ascending(value, least, most):
    """Whether the value is a strictly ascending tuple of at least and at most so many names."""
    return is_tuple(value, least, most) and all([is_name(entry) for entry in value]) and ascends(value)


def is_same(value, told):
    """Whether a value equals tuples of integers, strings, booleans and None, and no integer stands for a boolean."""
    if isinstance(told, tuple):
        return is_tuple(value, len(told), len(told)) and all([is_same(one, two) for one, two in zip(value, told)])
    return isinstance(value, bool) == isinstance(told, bool) and value == told
