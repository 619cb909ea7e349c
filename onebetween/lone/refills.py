"""Refills: the lone webs that have the rows of a web, but for those of a few lost places."""

from onebetween.base.masks import mask_of, places_of, union_of
from onebetween.base.words import is_ascending
from onebetween.errors import InvalidOperation, TooMany
from onebetween.lone.filling import fillings
from onebetween.lone.papers import MAX_DEPTH
from onebetween.webs.checks import check_number, check_web, has_depth
from onebetween.webs.webs import Web

MAX_REFILLS = 2000

# How many places can be lost.
_MAX_LOST = 3


def refills(web, depth, places):
    """Return the ascending tuple of all refills."""
    return tuple([_with_rows(web, places, told) for told in _found(web, depth, places)])


def count_refills(web, depth, places):
    """Return how many refills there are."""
    return len(_found(web, depth, places))


def sure_ties(web, depth, places):
    """Return the ascending tuple of the ties from the lost places that all refills have."""
    return _ties_of(places, [every for every, _ in _parts_of(web, depth, places)])


def open_ties(web, depth, places):
    """Return the ascending tuple of the ties from the lost places that some refills have and others do not."""
    return _ties_of(places, [some & ~every for every, some in _parts_of(web, depth, places)])


def is_refill(web, depth, places, value):
    """Tell whether the value is a refill."""
    _check(web, depth, places)
    if not isinstance(value, Web) or len(value) != len(web) or not has_depth(value, depth):
        return False
    return all([value[place] == row for place, row in enumerate(web.rows) if place not in places])


def _check(web, depth, places):
    """Refuse what is no web, no depth, and no tuple of lost places."""
    check_web(web)
    check_number(depth, 1, MAX_DEPTH)
    if not is_ascending(places, len(web)) or not 1 <= len(places) <= _MAX_LOST:
        raise InvalidOperation("the places are no ascending tuple of one to three places")


def _found(web, depth, places):
    """Return the ascending list of the rows that the lost places have in the refills."""
    _check(web, depth, places)
    found = fillings(web.rows, depth, places, MAX_REFILLS)
    if found is None:
        raise TooMany(MAX_REFILLS)
    return found


def _with_rows(web, places, told):
    """Return the web with other rows of some places."""
    rows = list(web.rows)
    for place, row in zip(places, told):
        rows[place] = row
    return Web(tuple(rows))


def _parts_of(web, depth, places):
    """Return for each lost place the masks of its ties that all refills have, and of those that some have."""
    found = [[mask_of(row) for row in told] for told in _found(web, depth, places)]
    if len(found) == 0:
        raise InvalidOperation("there is no refill")
    parts = []
    for at in range(len(places)):
        masks = [told[at] for told in found]
        every = masks[0]
        for mask in masks:
            every = every & mask
        parts.append((every, union_of(masks)))
    return parts


def _ties_of(places, masks):
    """Return the ascending tuple of the ties from some places to those of their masks."""
    return tuple([(one, other) for one, mask in zip(places, masks) for other in places_of(mask)])
