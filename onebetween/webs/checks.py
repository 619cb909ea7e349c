"""What the functions about webs ask of their arguments, and the errors for what is wrong."""

from onebetween.base.words import is_within
from onebetween.errors import InvalidNumber, InvalidWeb, NotLone
from onebetween.webs.webs import Web


def check_web(web):
    """Refuse what is no web."""
    if not isinstance(web, Web):
        raise InvalidWeb("the value is no web")


def check_number(number, least, most):
    """Refuse what is no integer from least to most."""
    if not is_within(number, least, most):
        raise InvalidNumber(number)


def check_place(web, place):
    """Refuse what is no place of the web."""
    check_number(place, 0, len(web) - 1)


def has_depth(web, depth):
    """Tell whether the web is lone of this depth."""
    # One place with a loop is lone of all depths, and no other web of two.
    return web.lone_depth == depth or (len(web) == 1 and web.lone_depth == 1)


def check_lone(web, depth):
    """Refuse a web that is not lone of this depth."""
    if not has_depth(web, depth):
        raise NotLone(depth)
