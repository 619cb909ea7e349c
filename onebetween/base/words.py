"""Which values are integers, letters, numbers in a text and tuples of places."""

MAX_FIGURES = 200

# The least number with more than MAX_FIGURES figures. Values are compared
# with it, since Python refuses to write very long numbers as strings.
_BOUND = (10 ** 50) ** 4


def is_integer(value):
    """Tell whether the value is an integer of at most MAX_FIGURES digits."""
    # True and False are values of int for Python, but not for this package.
    return isinstance(value, int) and not isinstance(value, bool) and -_BOUND < value < _BOUND


def is_count(value):
    """Tell whether the value is an integer of at least 0."""
    return is_integer(value) and value >= 0


def is_letter(value):
    """Tell whether the value is a string of one letter a to z."""
    return isinstance(value, str) and len(value) == 1 and "a" <= value <= "z"


def is_within(value, least, most):
    """Tell whether the value is an integer from least to most."""
    return is_integer(value) and least <= value <= most


def is_number_word(value):
    """Tell whether the value is the string of an integer of at least 0."""
    # isdigit alone accepts figures of other scripts, too.
    if not isinstance(value, str) or not value.isascii() or not value.isdigit():
        return False
    return len(value) <= MAX_FIGURES and (value == "0" or value[0] != "0")


def is_ascending(value, many):
    """Tell whether the value is an ascending tuple of integers from 0 to many - 1."""
    if not isinstance(value, tuple) or not all([is_integer(number) for number in value]):
        return False
    # Of ascending integers only the ends can be beyond the bounds.
    if len(value) > 0 and (value[0] < 0 or value[-1] >= many):
        return False
    return all([low < high for low, high in zip(value, value[1:])])


def is_arrangement(value, many):
    """Tell whether the value is a tuple with each integer from 0 to many - 1 once."""
    # Only integers are sorted: other values may have no order, and True would pass as 1.
    if not isinstance(value, tuple) or not all([is_integer(number) for number in value]):
        return False
    return sorted(value) == list(range(many))
