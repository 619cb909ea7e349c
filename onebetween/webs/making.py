"""Webs that are made out of numbers or out of other webs."""

from onebetween.base.masks import places_of, reached
from onebetween.base.numbers import figures_of, number_of, power
from onebetween.base.words import is_arrangement, is_integer, is_within
from onebetween.errors import InvalidNumber, InvalidOperation, TooMany
from onebetween.lone.papers import MAX_DEPTH
from onebetween.webs.checks import check_number, check_web
from onebetween.webs.webs import Web

MAX_PLACES = 256

# How many line webs can be made, one behind the other, and how long strides can be.
_MAX_TIMES = 8
_MAX_STEPS = 200


def word_web(degree, depth):
    """Return the word web of a degree and a depth."""
    _check_words(degree, depth)
    many = power(degree, depth)
    _check_size(many)
    # The degree divides the number of places, so that no row goes past the last place.
    starts = [place * degree % many for place in range(many)]
    return Web(tuple([tuple(range(start, start + degree)) for start in starts]))


def all_ties(number):
    """Return the web of so many places in which each place is tied to all places."""
    _check_positive(number)
    _check_size(number)
    return Web((tuple(range(number)),) * number)


def word_of(degree, depth, place):
    """Return the word of a place of a word web."""
    _check_words(degree, depth)
    return figures_of(degree, depth, place)


def place_of(degree, depth, word):
    """Return the place of a word web that has a word."""
    _check_words(degree, depth)
    if not isinstance(word, tuple) or len(word) != depth:
        raise InvalidOperation("the word is no tuple of as many figures as the depth")
    return number_of(degree, word)


def line_web(web, *, times=1):
    """Return the line web of a web, made so many times, one behind the other."""
    check_web(web)
    check_number(times, 0, _MAX_TIMES)
    made = web
    for _ in range(times):
        made = _line_web_of(made)
    return made


def line_ties(web):
    """Return the ties of a web, which are the places of its line web."""
    check_web(web)
    return web.ties


def product(one, other):
    """Return the web with a place for each pair of places of two webs."""
    _check_webs(one, other)
    many = len(other)
    _check_size(len(one) * many)
    rows = []
    for row in one.rows:
        for other_row in other.rows:
            rows.append(tuple([first * many + second for first in row for second in other_row]))
    return Web(tuple(rows))


def pair_of(one, other, place):
    """Return the pair of places that a place of the product stands for."""
    _check_webs(one, other)
    check_number(place, 0, len(one) * len(other) - 1)
    return divmod(place, len(other))


def place_in(one, other, pair):
    """Return the place of the product for a pair of places."""
    _check_webs(one, other)
    if not isinstance(pair, tuple) or len(pair) != 2:
        raise InvalidOperation("the value is no pair")
    first, second = pair
    if not is_within(first, 0, len(one) - 1) or not is_within(second, 0, len(other) - 1):
        raise InvalidOperation("these are no places of the two webs")
    return first * len(other) + second


def both(one, other):
    """Return the web of both, side by side."""
    _check_webs(one, other)
    many = len(one)
    _check_size(many + len(other))
    return Web(one.rows + tuple([tuple([many + place for place in row]) for row in other.rows]))


def strides(web, steps):
    """Return the web in which places are tied if a walk of so many steps leads from one to the other."""
    check_web(web)
    check_number(steps, 0, _MAX_STEPS)
    return Web(tuple([places_of(mask) for mask in reached(web.rows, steps)]))


def shifted(web, names):
    """Return the web in which each place x has the row of the place names[x]."""
    check_web(web)
    if not is_arrangement(names, len(web)):
        raise InvalidOperation("the names are no tuple with each place once")
    rows = web.rows
    return Web(tuple([rows[name] for name in names]))


def is_order(web, value):
    """Tell whether the value is a tuple with each place of the web once."""
    check_web(web)
    return is_arrangement(value, len(web))


def _line_web_of(web):
    """Return the line web of a web."""
    ties = web.ties
    if len(ties) == 0:
        raise InvalidOperation("a web without ties has no line web")
    _check_size(len(ties))
    numbers = {tie: number for number, tie in enumerate(ties)}
    rows = web.rows
    return Web(tuple([tuple([numbers[(end, after)] for after in rows[end]]) for _, end in ties]))


def _check_words(degree, depth):
    """Refuse what is no degree and no depth of a word web."""
    _check_positive(degree)
    check_number(depth, 1, MAX_DEPTH)


def _check_positive(number):
    """Refuse what is no integer of at least 1."""
    if not is_integer(number) or number < 1:
        raise InvalidNumber(number)


def _check_size(many):
    """Refuse to make a web of so many places if these are too many."""
    if many > MAX_PLACES:
        raise TooMany(MAX_PLACES)


def _check_webs(one, other):
    """Refuse what are not two webs."""
    check_web(one)
    check_web(other)
