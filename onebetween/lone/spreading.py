"""What maps between lone webs of one depth do to the places on walks, told what they do to some places."""

from onebetween.base.masks import has_place, mask_of
from onebetween.webs.steps import walks_from


def walk_table(web):
    """Return for any two places of a lone web the only walk of as many steps as its depth."""
    table = []
    for one in range(len(web)):
        table.append({walk[-1]: walk for walk in walks_from(web, one, web.lone_depth)})
    return table


def take_in(table, known, place):
    """Add a place to those that are known, with all that walks between them pass.

    Returns a tuple (place, start, end, step) for each place that follows: it has this index in the walk
    from the start to the end, both of which are known ahead of it.
    """
    follows = []
    known[place] = True
    left = [place]
    while len(left) > 0:
        one = left.pop()
        for other in list(known):
            for start, end in ((one, other), (other, one)):
                for step, passed in enumerate(table[start][end]):
                    if passed not in known:
                        known[passed] = True
                        follows.append((passed, start, end, step))
                        left.append(passed)
    return follows


def put_down(values, table, follows):
    """Put down the values of all places that follow, if a map takes walks to the walks of a table."""
    for place, start, end, step in follows:
        values[place] = table[values[start]][values[end]][step]


def keeps_ties(web, masks, value):
    """Tell whether places with these masks of rows are tied where those of the web are."""
    for place, row in enumerate(web.rows):
        mask = masks[value[place]]
        if not all([has_place(mask, value[after]) for after in row]):
            return False
    return True


def found_maps(one, other, alone):
    """Yield all maps between lone webs of one depth, ascending; or only those with no place twice."""
    levels = _levels(one)
    table = walk_table(other)
    masks = [mask_of(row) for row in other.rows]
    values = [0] * len(one)
    # For each level that is begun the value that its place takes next.
    later = [0]
    while len(later) > 0:
        value = later.pop()
        if value < len(other):
            later.append(value + 1)
            place, follows, ties, known = levels[len(later) - 1]
            values[place] = value
            put_down(values, table, follows)
            if _goes_on(values, masks, ties) and not (alone and _is_doubled(values, known)):
                if len(later) == len(levels):
                    yield tuple(values)
                else:
                    later.append(0)


def _levels(web):
    """Return what a search for maps does: for each place that it has to choose a tuple.

    It has the place, what follows behind it, the ties that are known then, but not ahead of it, and all known places.
    """
    table = walk_table(web)
    known = {}
    ties = web.ties
    levels = []
    for place in range(len(web)):
        if place not in known:
            ahead = dict(known)
            follows = take_in(table, known, place)
            # The ties that can be looked at now, but could not be ahead.
            now = [(x, y) for x, y in ties if x in known and y in known and not (x in ahead and y in ahead)]
            levels.append((place, follows, now, list(known)))
    return levels


def _goes_on(values, masks, ties):
    """Tell whether the values of tied places are tied."""
    return all([has_place(masks[values[start]], values[end]) for start, end in ties])


def _is_doubled(values, known):
    """Tell whether two of the known places have one value."""
    return len(set([values[place] for place in known])) < len(known)
