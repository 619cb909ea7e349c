"""The rows that lost places of a lone web can have, if those of all other places are known.

A tie from a lost place is early if a walk can go on from it to a lost place and over another such tie. If the early
ones are chosen, a walk goes over one of the others at most, and these have to cover just what is not reached yet.
"""

from onebetween.base.masks import has_place, mask_of, places_of, size_of_mask
from onebetween.base.numbers import raised
from onebetween.lone.covers import ways_to_cover


def fillings(rows, depth, places, most):
    """Return the ascending list of the tuples of rows of the lost places, None if there are more than so many."""
    degree = _root_of(len(rows), depth)
    known = [() if place in places else row for place, row in enumerate(rows)]
    if degree is None or any([len(row) != degree for place, row in enumerate(known) if place not in places]):
        return []
    if degree == len(rows):
        return [(tuple(range(degree)),) * len(places)]
    lacks = _lacks_of(known, degree, len(places))
    levels = walk_levels(known, depth)
    if lacks is None or levels is None:
        return []
    lost = mask_of(places)
    choices = _choices_of(levels, lost, lacks)
    early = [place for place in choices if _is_early(levels, lost, place)]
    late = [choices[place] for place in choices if place not in early]
    found = []
    many = 0
    # The rows that lost places have by some of the early ties, and the levels of walks along them.
    left = [(0, known, levels)]
    while len(left) > 0 and many <= most:
        at, told, levels = left.pop()
        if at < len(early):
            left.extend(_with_ties(at, told, depth, degree, choices[early[at]]))
        else:
            groups = _late_ways(levels, lost, late, most + 1)
            if _count_of(groups) > 0:
                found.append(([told[place] for place in places], groups))
                many = many + _count_of(groups)
    if many > most:
        return None
    return sorted([filled for told, groups in found for filled in _filled(told, places, groups)])


def walk_levels(rows, depth):
    """Return for 0 to depth steps, and each place, the mask of where walks lead, None if two lead to one place."""
    levels = [[1 << place for place in range(len(rows))]]
    for _ in range(depth):
        # Places with equal rows have equal masks.
        found = {}
        for row in rows:
            if row not in found:
                found[row] = _joined([levels[-1][place] for place in row])
                if found[row] is None:
                    return None
        levels.append([found[row] for row in rows])
    return levels


def _joined(masks):
    """Return the mask of all places of some masks, None if two of these have a place in common."""
    union = 0
    for mask in masks:
        if union & mask != 0:
            return None
        union = union | mask
    return union


def _root_of(many, depth):
    """Return the degree of the lone webs of a depth with so many places, None if there are none."""
    degree = 1
    while raised(degree, depth) < many:
        degree += 1
    if raised(degree, depth) == many:
        return degree
    return None


def _lacks_of(known, degree, most):
    """Return for each place that needs ties from lost places how many, None if that cannot be."""
    columns = [0] * len(known)
    for row in known:
        for place in row:
            columns[place] += 1
    if min(columns) < degree - most or max(columns) > degree:
        return None
    return {place: degree - many for place, many in enumerate(columns) if many < degree}


def _choices_of(levels, lost, lacks):
    """Return for each place with lacks the pairs of it and of a mask of lost places that can be tied to it."""
    everything = (1 << len(levels[0])) - 1
    depth = len(levels) - 1
    # Where walks come to lost places with their last step but one, the last steps lead to all that is missing.
    told = {}
    for place in range(len(levels[0])):
        if all([level[place] & lost == 0 for level in levels[:depth - 1]]):
            told[(levels[depth - 1][place] & lost, everything & ~levels[depth][place])] = True
    choices = {}
    for place, many in lacks.items():
        masks = [mask for mask in _parts_of(lost) if size_of_mask(mask) == many]
        choices[place] = [(place, mask) for mask in masks if _is_right(told, place, mask)]
    return choices


def _parts_of(mask):
    """Return the list of the masks of all sets of places of a mask."""
    found = [0]
    for place in places_of(mask):
        found = found + [part | (1 << place) for part in found]
    return found


def _is_right(told, place, mask):
    """Tell whether each told mask of ends has one of these lost places if it misses the place, and none if not."""
    return all([size_of_mask(mask & ends) == (1 if has_place(missing, place) else 0) for ends, missing in told])


def _is_early(levels, lost, place):
    """Tell whether a walk that comes to a place over a tie from a lost one can go over another such tie."""
    return any([level[place] & lost != 0 for level in levels[:-2]])


def _with_ties(at, told, depth, degree, choices):
    """Return the list of what comes about by ties from lost places to one more early place."""
    found = []
    for place, mask in choices:
        rows = [row + (place,) if has_place(mask, one) else row for one, row in enumerate(told)]
        levels = walk_levels(rows, depth)
        if levels is not None and max([len(row) for row in rows]) <= degree:
            found.append((at + 1, rows, levels))
    return found


def _late_ways(levels, lost, late, most):
    """Return the list of groups of ways in which ties to late places can cover what walks do not reach yet."""
    many = len(levels[0])
    everything = (1 << many) - 1
    # Places from which walks come to the same lost places by the same steps miss the same places.
    needs = {}
    for place in range(many):
        kind = tuple([level[place] & lost for level in levels[:-1]])
        missing = everything & ~levels[-1][place]
        if needs.setdefault(kind, missing) != missing:
            return [[]]
    need = 0
    for at, missing in enumerate(needs.values()):
        need = need | (missing << (at * many))
    pieces = []
    for choices in late:
        piece = [(choice, _covered(levels, needs, choice)) for choice in choices]
        pieces.append([option for option in piece if option[1] is not None])
    return ways_to_cover(pieces, need, most)


def _covered(levels, needs, choice):
    """Return the mask of what the ties of a choice cover, None if that is not missing, or is covered twice."""
    place, mask = choice
    union = 0
    for at, (kind, missing) in enumerate(needs.items()):
        # The walks behind a step to the place, for each way to come to a lost place ahead of it.
        ends = [level[place] for level, lost in zip(levels[-2::-1], kind) for _ in places_of(lost & mask)]
        covered = _joined(ends)
        if covered is None or covered & ~missing != 0:
            return None
        union = union | (covered << (at * len(levels[0])))
    return union


def _count_of(groups):
    """Return how many choices of one way of each group there are."""
    many = 1
    for ways in groups:
        many = many * len(ways)
    return many


def _filled(told, places, groups):
    """Return the rows of the lost places by one way of each group, beside the ties that are told."""
    found = [()]
    for ways in groups:
        found = [ahead + way for ahead in found for way in ways]
    filled = []
    for ties in found:
        rows = []
        for one, row in zip(places, told):
            rows.append(tuple(sorted(row + tuple([place for place, mask in ties if has_place(mask, one)]))))
        filled.append(tuple(rows))
    return filled
