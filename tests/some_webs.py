"""Webs that the tests use: those of the document, all small ones, and the largest one."""

import itertools

from onebetween.webs.webs import Web
from tests.wrong_values import BENT, FOUR, NINE

ALL = tuple(range(256))
FULL = Web((ALL,) * 256)


def all_rows(many):
    """Return all rows that a place of so many places can have."""
    rows = []
    for size in range(many + 1):
        rows.extend(itertools.combinations(range(many), size))
    return rows


def small_webs():
    """Return the webs of the document, and all webs of at most three places."""
    found = [BENT, FOUR, NINE]
    for many in (1, 2, 3):
        found.extend(Web(rows) for rows in itertools.product(all_rows(many), repeat=many))
    return found


def all_walks(web, one, steps):
    """Return all walks of so many steps from a place, by force, ascending."""
    if steps == 0:
        return [(one,)]
    return [(one,) + walk for place in web.rows[one] for walk in all_walks(web, place, steps - 1)]


def counted(web, steps):
    """Return by force, for all pairs of places, how many walks of so many steps join them."""
    many = len(web.rows)
    found = {(one, other): 0 for one in range(many) for other in range(many)}
    for one in range(many):
        for walk in all_walks(web, one, steps):
            found[one, walk[-1]] += 1
    return found


def is_lone_by_force(web, depth):
    """Tell by force whether just one walk of so many steps joins any two places."""
    return set(counted(web, depth).values()) == {1}


# Webs without ties, of one place with and without a loop, and of too many places for some functions.
LOOP = Web(((0,),))
DOT = Web(((),))
BARE = Web(((),) * 3)
RING_65 = Web(tuple(((place + 1) % 65,) for place in range(65)))
DEEP = Web(tuple(tuple(sorted((place * 2 % 8, place * 2 % 8 + 1))) for place in range(8)))
