"""Walks in webs: how many there are, and each one by its index."""

from math import gcd

from onebetween.base.masks import has_place, mask_of, places_of, step_from
from onebetween.base.words import is_count
from onebetween.errors import InvalidNumber, InvalidWalk
from onebetween.webs.checks import check_number, check_place, check_web
from onebetween.webs.steps import is_walk_of, layers_from

MAX_STEPS = 200


def is_walk(web, value):
    """Tell whether the value is a walk of at most 200 steps."""
    check_web(web)
    return is_walk_of(web, value, 0, MAX_STEPS)


def count_walks(web, one, other, steps):
    """Return how many walks of so many steps lead from the one place to the other one."""
    _check_walks(web, one, other, steps)
    return _counts_to(web.rows, other, steps)[steps][one]


def walk_counts(web, one, steps):
    """Return for each place how many walks of so many steps lead to it."""
    check_web(web)
    check_place(web, one)
    check_number(steps, 0, MAX_STEPS)
    # Walks from a place are walks to it in the web read backwards.
    return tuple(_counts_to(web.columns, one, steps)[steps])


def layers(web, one, steps):
    """Return the tuple of the places to which walks of 0, 1 and so on steps lead."""
    check_web(web)
    check_place(web, one)
    check_number(steps, 0, MAX_STEPS)
    return layers_from(web, one, steps)


def each_walk(web, one, other, steps):
    """Yield the walks of so many steps from the one place to the other one, ascending."""
    _check_walks(web, one, other, steps)
    rows = web.rows
    ahead = _ways_to(web, other, steps)
    if not has_place(ahead[steps], one):
        return
    walk = [one]
    # For each step of the walk the places that it will take there later, the next one last.
    later = []
    while True:
        missing = steps + 1 - len(walk)
        for left in reversed(range(missing)):
            nexts = [place for place in rows[walk[-1]][::-1] if has_place(ahead[left], place)]
            walk.append(nexts.pop())
            later.append(nexts)
        yield tuple(walk)
        while len(later) > 0 and len(later[-1]) == 0:
            walk.pop()
            later.pop()
        if len(later) == 0:
            return
        walk[-1] = later[-1].pop()


def nth_walk(web, one, other, steps, index):
    """Return the walk with an index among the walks of so many steps between two places."""
    _check_walks(web, one, other, steps)
    if not is_count(index):
        raise InvalidNumber(index)
    counts = _counts_to(web.rows, other, steps)
    if index >= counts[steps][one]:
        raise InvalidNumber(index)
    walk = [one]
    rest = index
    for left in reversed(range(steps)):
        for place in web[walk[-1]]:
            if rest < counts[left][place]:
                walk.append(place)
                break
            rest = rest - counts[left][place]
    return tuple(walk)


def walk_index(web, value):
    """Return the index of a walk among all walks with its ends and its number of steps."""
    check_web(web)
    if not is_walk_of(web, value, 0, MAX_STEPS):
        raise InvalidWalk("the value is no walk of at most 200 steps")
    steps = len(value) - 1
    counts = _counts_to(web.rows, value[-1], steps)
    index = 0
    for at in range(steps):
        ahead = [place for place in web[value[at]] if place < value[at + 1]]
        index = index + sum([counts[steps - at - 1][place] for place in ahead])
    return index


def distance(web, one, other):
    """Return the least number of steps of a walk between two places, None if there is no walk."""
    check_web(web)
    check_place(web, one)
    check_place(web, other)
    return _distances(_masks(web), one).get(other)


def farthest(web):
    """Return the greatest distance of two places, None if some place cannot be reached from some other one."""
    check_web(web)
    masks = _masks(web)
    found = 0
    for one in range(len(masks)):
        distances = _distances(masks, one)
        if len(distances) < len(masks):
            return None
        found = max(found, max(list(distances.values())))
    return found


def components(web):
    """Return the ascending tuple of the sets of places that can be reached from each other."""
    check_web(web)
    masks = _masks(web)
    reach = [mask_of(_distances(masks, one)) for one in range(len(masks))]
    found = []
    for one in range(len(masks)):
        part = [other for other in places_of(reach[one]) if has_place(reach[other], one)]
        if part[0] == one:
            found.append(tuple(part))
    return tuple(found)


def period(web, place):
    """Return the greatest common divisor of the steps of all closed walks from a place, 0 if there is none."""
    check_web(web)
    check_place(web, place)
    ahead = _distances(_masks(web), place)
    behind = _distances([mask_of(column) for column in web.columns], place)
    found = 0
    for one in ahead:
        for other in web[one]:
            # Only ties that lead back to the place belong to closed walks from it.
            if other in behind:
                found = gcd(found, ahead[one] + 1 - ahead[other])
    return found


def _check_walks(web, one, other, steps):
    """Refuse what is no web, no two places of it, and no number of steps."""
    check_web(web)
    check_place(web, one)
    check_place(web, other)
    check_number(steps, 0, MAX_STEPS)


def _counts_to(rows, other, steps):
    """Return for 0 to so many steps, and each place, how many walks lead to the other place."""
    counts = [0] * len(rows)
    counts[other] = 1
    levels = [counts]
    # Places with equal rows have equal counts, which are worked out but once.
    kinds = {}
    for row in rows:
        kinds.setdefault(row, len(kinds))
    kind_of = [kinds[row] for row in rows]
    for _ in range(steps):
        counts = levels[-1]
        sums = [sum([counts[place] for place in row]) for row in kinds]
        levels.append([sums[kind] for kind in kind_of])
    return levels


def _ways_to(web, other, steps):
    """Return for 0 to so many steps the mask of the places from which walks lead to the other place."""
    masks = [mask_of(column) for column in web.columns]
    ways = [1 << other]
    for _ in range(steps):
        ways.append(step_from(masks, ways[-1]))
    return ways


def _masks(web):
    """Return the masks of the rows of a web."""
    return [mask_of(row) for row in web.rows]


def _distances(masks, one):
    """Return the dict from the places that can be reached from a place to their distances."""
    distances = {}
    seen = 0
    layer = 1 << one
    steps = 0
    while layer != 0:
        for place in places_of(layer):
            distances[place] = steps
        seen = seen | layer
        layer = step_from(masks, layer) & ~seen
        steps += 1
    return distances
