"""Webs that the tests use: those of the document, all small ones, and the largest one."""

import itertools

from onebetween.webs.webs import Web
from tests.wrong_values import BENT, FOUR, NINE

ALL = tuple(range(256))
FULL = Web((ALL,) * 256)


def all_rows(many):
    """Return all rows that a place of so many places can have."""
    rows = []
    for size in range(many + 1):
        rows.extend(itertools.combinations(range(many), size))
    return rows


def small_webs():
    """Return the webs of the document, and all webs of at most three places."""
    found = [BENT, FOUR, NINE]
    for many in (1, 2, 3):
        found.extend(Web(rows) for rows in itertools.product(all_rows(many), repeat=many))
    return found
