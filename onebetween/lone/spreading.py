"""What maps between lone webs of one depth do to the places on walks, told what they do to some places."""

from onebetween.base.masks import has_place, mask_of
from onebetween.webs.steps import walks_from


def walk_table(web):
    """Return for any two places of a lone web the only walk of as many steps as its depth."""
    table = []
    for one in range(len(web)):
        table.append({walk[-1]: walk for walk in walks_from(web, one, web.lone_depth)})
    return table


def take_in(table, known, place):
    """Add a place to those that are known, with all that walks between them pass.

    Returns a tuple (place, start, end, step) for each place that follows: it has this index in the walk
    from the start to the end, both of which are known ahead of it.
    """
    follows = []
    known[place] = True
    left = [place]
    while len(left) > 0:
        one = left.pop()
        for other in list(known):
            for start, end in ((one, other), (other, one)):
                for step, passed in enumerate(table[start][end]):
                    if passed not in known:
                        known[passed] = True
                        follows.append((passed, start, end, step))
                        left.append(passed)
    return follows


def put_down(values, table, follows):
    """Put down the values of all places that follow, if a map takes walks to the walks of a table."""
    for place, start, end, step in follows:
        values[place] = table[values[start]][values[end]][step]


def keeps_ties(web, masks, value):
    """Tell whether places with these masks of rows are tied where those of the web are."""
    for place, row in enumerate(web.rows):
        mask = masks[value[place]]
        if not all([has_place(mask, value[after]) for after in row]):
            return False
    return True


class Level:
    """What a search for maps does where it has to choose a value of a place."""

    def __init__(self, web, table, ahead, place):
        self.place = place
        self.is_looped = place in web[place]
        # The places known ahead that are tied to the place, and those to which it is tied.
        self.before = [other for other in web.columns[place] if other in ahead]
        self.after = [other for other in web[place] if other in ahead]
        # The places that follow behind it, and those that are known then.
        self.known = dict(ahead)
        self.follows = take_in(table, self.known, place)
        # The other ties that come to be known.
        old = {other: True for other in list(ahead) + [place]}
        known = self.known
        self.asked = [(x, y) for x, y in web.ties if x in known and y in known and not (x in old and y in old)]


def found_maps(one, other, alone):
    """Yield all maps between lone webs of one depth, ascending; or only those with no place twice."""
    levels = _levels(one)
    table = walk_table(other)
    rows = [mask_of(row) for row in other.rows]
    columns = [mask_of(column) for column in other.columns]
    values = [0] * len(one)
    # For each level that is begun the mask of the values that its place takes later.
    later = [_let_values(levels[0], values, rows, columns)]
    while len(later) > 0:
        left = later.pop()
        if left != 0:
            later.append(left & (left - 1))
            level = levels[len(later) - 1]
            values[level.place] = (left & -left).bit_length() - 1
            put_down(values, table, level.follows)
            if _goes_on(values, rows, level.asked) and not (alone and _is_doubled(values, level.known)):
                if len(later) == len(levels):
                    yield tuple(values)
                else:
                    later.append(_let_values(levels[len(later)], values, rows, columns))


def _levels(web):
    """Return the levels of a search for maps from a web, by which all its places come to be known."""
    table = walk_table(web)
    known = {}
    levels = []
    for place in range(len(web)):
        if place not in known:
            level = Level(web, table, known, place)
            known = level.known
            levels.append(level)
    return levels


def _let_values(level, values, rows, columns):
    """Return the mask of the values that the place of a level can have beside those that are known ahead."""
    mask = (1 << len(rows)) - 1
    if level.is_looped:
        mask = mask_of([place for place, row in enumerate(rows) if has_place(row, place)])
    for other in level.before:
        mask = mask & rows[values[other]]
    for other in level.after:
        mask = mask & columns[values[other]]
    return mask


def _goes_on(values, masks, ties):
    """Tell whether the values of tied places are tied."""
    return all([has_place(masks[values[start]], values[end]) for start, end in ties])


def _is_doubled(values, known):
    """Tell whether two of the known places have one value."""
    return len(set([values[place] for place in known])) < len(known)
