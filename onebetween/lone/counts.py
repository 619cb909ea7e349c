"""Closed walks and rings: how many there are, and each one of them."""

from onebetween.base.masks import has_place, mask_of, step_from
from onebetween.base.numbers import divisors, moebius, raised
from onebetween.errors import InvalidWalk
from onebetween.lone.papers import MAX_DEPTH
from onebetween.webs.checks import check_lone, check_number, check_place, check_web
from onebetween.webs.steps import is_walk_of, walks_from

MAX_STEPS = 200
MAX_LENGTH = 60


def count_closed(web, depth, steps):
    """Return how many closed walks of so many steps a lone web has."""
    _check_counts(web, depth, steps)
    return raised(len(web[0]), steps)


def count_rings(web, depth, length):
    """Return how many rings of this length a lone web has."""
    _check_counts(web, depth, length)
    return _count_rings(len(web[0]), length)


def census(web, depth, length):
    """Return the dict from the lengths up to this one to the numbers of rings."""
    _check_counts(web, depth, length)
    degree = len(web[0])
    return {number: _count_rings(degree, number) for number in range(1, length + 1)}


def is_ring(web, value):
    """Tell whether the value is a ring of at most 60 places."""
    check_web(web)
    if not isinstance(value, tuple) or not is_walk_of(web, value + value[:1], 1, MAX_LENGTH):
        return False
    return all([value < turned for turned in _turnings(value)[1:]])


def each_ring(web, length):
    """Yield all rings of this length, ascending."""
    check_web(web)
    check_number(length, 1, MAX_LENGTH)
    rows = web.rows
    columns = [mask_of(column) for column in web.columns]
    for first in range(len(rows)):
        ways = _ways_back(columns, length, first)
        if has_place(ways[length], first):
            yield from _rings_along(rows, ways, length, first)


def _rings_along(rows, ways, length, first):
    """Yield the rings of this length that begin with a place, ascending, along the ways back to it."""
    ring = [first]
    # A ring begun so repeats this many of its first places, over and over.
    part = 1
    # For each further place of the ring the places that it will take there later, the next one last.
    later = []
    while True:
        while len(ring) < length:
            least = ring[len(ring) - part]
            nexts = _nexts(rows[ring[-1]], least, ways[length - len(ring)])
            if len(nexts) == 0:
                break
            ring.append(nexts.pop())
            later.append(nexts)
            # With a greater place than that which would repeat, the ring repeats nothing so far.
            if ring[-1] > least:
                part = len(ring)
        if part == length:
            yield tuple(ring)
        while len(later) > 0 and len(later[-1]) == 0:
            ring.pop()
            later.pop()
        if len(later) == 0:
            return
        # The least of the places, which could repeat, came first.
        ring[-1] = later[-1].pop()
        part = len(ring)


def ring_of(web, value):
    """Return the pair of the ring of a closed walk and of how often it goes round."""
    check_web(web)
    if not is_walk_of(web, value, 1, MAX_LENGTH) or value[0] != value[-1]:
        raise InvalidWalk("the value is no closed walk of at most 60 steps")
    least = min(_turnings(value[:-1]))
    for length in range(1, len(least)):
        if least[length:] + least[:length] == least:
            return least[:length], len(least) // length
    return least, 1


def rings_at(web, depth, place, length):
    """Return how many closed walks of so many steps, that repeat no shorter ones, begin at a place."""
    check_web(web)
    check_number(depth, 1, MAX_DEPTH)
    check_place(web, place)
    check_number(length, 1, MAX_STEPS)
    check_lone(web, depth)
    return sum([moebius(length // part) * _count_closed_at(web, depth, place, part) for part in divisors(length)])


def _check_counts(web, depth, number):
    """Refuse what is no web, no depth, no number of steps, and a web that is not lone."""
    check_web(web)
    check_number(depth, 1, MAX_DEPTH)
    check_number(number, 1, MAX_STEPS)
    check_lone(web, depth)


def _count_rings(degree, length):
    """Return how many rings of this length the lone webs of a degree have."""
    closed = sum([moebius(length // part) * raised(degree, part) for part in divisors(length)])
    return closed // length


def _count_closed_at(web, depth, place, steps):
    """Return how many closed walks of so many steps begin at a place of a lone web."""
    if steps >= depth:
        return raised(len(web[0]), steps - depth)
    return len([walk for walk in walks_from(web, place, steps) if walk[-1] == place])


def _turnings(places):
    """Return the list of all turnings of a tuple, itself ahead."""
    return [places[at:] + places[:at] for at in range(len(places))]


def _ways_back(columns, length, first):
    """Return for 0 to so many steps the mask of the places from which walks lead back to the first place.

    No ring that begins with this place passes those ahead of it, so these walks do not pass them, either.
    """
    let = ~((1 << first) - 1)
    ways = [1 << first]
    for _ in range(length):
        ways.append(step_from(columns, ways[-1]) & let)
    return ways


def _nexts(row, least, way):
    """Return the places of a row on the way back that are not ahead of the least one, descending."""
    return [place for place in row[::-1] if place >= least and has_place(way, place)]
