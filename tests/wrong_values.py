"""Values of every kind that point 0.4 of the document lists, to be refused where they are wrong."""

from onebetween.errors import InvalidNumber, InvalidWeb, ParseError
from onebetween.webs.webs import Web

FOUR = Web(((0, 1), (2, 3), (0, 1), (2, 3)))
NINE = Web(((0, 1, 2), (4, 5, 6), (3, 7, 8), (0, 1, 2), (3, 4, 5), (6, 7, 8), (0, 1, 2), (3, 4, 5), (6, 7, 8)))
BENT = Web(((0, 1), (2, 3), (0, 2), (1, 3)))

LONG = 10 ** 200
LONG_INTEGERS = (LONG, LONG + 7, 10 ** 249, 10 ** 250 - 1, -LONG, -LONG - 7, 1 - 10 ** 250)
NEGATIVE_INTEGERS = (-1, -2, -256, 1 - LONG)


def nested(kind, depth):
    """Return a value of tuples, lists or dicts, nested so deep."""
    value = kind()
    for _ in range(depth - 1):
        value = {"a": value} if kind is dict else kind([value])
    return value


NO_INTEGERS = (
    True, False, None,
    "", "0", "1", "a", "z", "A", " ", "\n", "0 to 1", "nothing", "x" * 8000, "12 " * 2600 + "\n",
    (), (0,), (1, 2), (0, 1, 2), ((0, 1), (0, 1)), (None,), ("0",), (True, False), (LONG,), nested(tuple, 8),
    [], [0], [1, 2], [[0, 1], [0, 1]], ["0 to 1"], nested(list, 8), (0, [1]), ([],),
    {}, {0: 1}, {"a": 0}, {(0, 1): [2]}, nested(dict, 8), ({},),
    FOUR, NINE, (FOUR,), [BENT], {"web": FOUR}, InvalidNumber(3), ParseError(None), InvalidWeb("no"), (InvalidNumber(0),),
)

NO_COUNTS = NO_INTEGERS + LONG_INTEGERS + NEGATIVE_INTEGERS


def same(one, other):
    """Tell whether two values are the same, also by their kinds: True is not 1 here."""
    if one.__class__ is not other.__class__:
        return False
    if isinstance(one, (tuple, list)):
        return len(one) == len(other) and all(map(same, one, other))
    return one == other


def without(values, *left_out):
    """Return the values but some."""
    return tuple(value for value in values if not any(same(value, other) for other in left_out))


ANY_KIND = NO_COUNTS + (0, 1, 2, 3)
NO_WEBS = without(ANY_KIND, FOUR, NINE)


def no_numbers(least, most):
    """Return values of every kind that are no integers from least to most."""
    near = (least - 2, least - 1, most + 1, most + 2, LONG - 1)
    return NO_COUNTS + tuple(number for number in near if number >= 0 and not least <= number <= most)


def web_rule(index=0):
    """Return the rule for a parameter that is a web, for assertRefusals."""
    return index, NO_WEBS, InvalidWeb, None


def number_rule(key, least, most):
    """Return the rule for a parameter that is an integer from least to most, for assertRefusals."""
    return key, no_numbers(least, most), InvalidNumber, "value"
