"""Trees towards a place, and tours through all ties of a web."""

from math import factorial

from onebetween.base.masks import has_place, mask_of, spread_from, step_from
from onebetween.base.matrices import determinant
from onebetween.base.numbers import raised
from onebetween.base.words import is_within
from onebetween.errors import InvalidOperation, NotLone, TooMany
from onebetween.webs.checks import check_place, check_web

MAX_PLACES = 64


def is_tree(web, root, value):
    """Tell whether the value is a tree towards the root."""
    _check_root(web, root)
    return _is_tree(web, root, value)


def count_trees(web, root):
    """Return how many trees towards the root there are."""
    _check_root(web, root)
    return _count_trees(web, root)


def any_tree(web, root):
    """Return a tree towards the root, None if there is none."""
    for tree in each_tree(web, root):
        return tree
    return None


def each_tree(web, root):
    """Yield all trees towards the root, ascending by the entries of the other places."""
    _check_root(web, root)
    places = [place for place in range(len(web)) if place != root]
    # The columns of the ties that are left: all of them, and then those behind each choice.
    levels = [_column_masks(web)]
    if spread_from(levels[0], 1 << root, 0) != (1 << len(web)) - 1:
        return
    entries = []
    # For each place the entries that it will have later, the next one last.
    later = []
    while True:
        missing = places[len(later):]
        for place in missing:
            nexts = _leading_nexts(levels[-1], web[place], place, root)
            entries.append(nexts.pop())
            later.append(nexts)
            levels.append(_with_entry(levels[-1], place, entries[-1]))
        yield tuple(entries[:root] + [None] + entries[root:])
        while len(later) > 0 and len(later[-1]) == 0:
            entries.pop()
            later.pop()
            levels.pop()
        if len(later) == 0:
            return
        entries[-1] = later[-1].pop()
        levels[-1] = _with_entry(levels[-2], places[len(later) - 1], entries[-1])


def is_tour(web, value):
    """Tell whether the value is a tour."""
    _check_small(web)
    return _is_tour(web, value)


def count_tours(web):
    """Return how many tours there are."""
    _check_small(web)
    if web.lone_depth > 0:
        return lone_tours(web)
    if not _has_tours(web):
        return 0
    # Places without ties have no part in a tour, and leave no tree towards the others.
    part = web.part(tuple([place for place, row in enumerate(web.rows) if len(row) > 0]))
    many = _count_trees(part, 0)
    for row in part.rows:
        many = many * factorial(len(row) - 1)
    return many


def any_tour(web):
    """Return a tour, None if there is none."""
    for tour in each_tour(web):
        return tour
    return None


def each_tour(web):
    """Yield all tours, ascending."""
    _check_small(web)
    if not _has_tours(web):
        return
    steps = len(web.ties)
    tour = list(web.ties[0])
    # The ties that are left, as rows and as columns.
    rows = [mask_of(row) for row in web.rows]
    columns = _column_masks(web)
    _take_or_put_back(rows, columns, tour[0], tour[1])
    # For each step behind the first one the mask of the places to which it may go later.
    later = []
    while True:
        while len(tour) <= steps:
            ways = rows[tour[-1]]
            after = _first_open(rows, columns, tour[-1], ways)
            later.append(_above(ways, after))
            _take_or_put_back(rows, columns, tour[-1], after)
            tour.append(after)
        yield tuple(tour)
        after = None
        while after is None and len(later) > 0:
            ways = later.pop()
            _take_or_put_back(rows, columns, tour[-2], tour[-1])
            tour.pop()
            after = _first_open(rows, columns, tour[-1], ways)
        if after is None:
            return
        later.append(_above(ways, after))
        _take_or_put_back(rows, columns, tour[-1], after)
        tour.append(after)


def tour_parts(web, tour):
    """Return the pair of the tree and of the orders of a tour."""
    check_web(web)
    if any([len(row) == 0 for row in web.rows]) or not _is_tour(web, tour):
        raise InvalidOperation("the web has no tours or a place without ties, or the value is no tour")
    _check_size(web)
    start = tour[0]
    exits = [[] for _ in range(len(web))]
    for place, after in zip(tour, tour[1:]):
        exits[place].append(after)
    tree = [None if place == start else row[-1] for place, row in enumerate(exits)]
    orders = [row[1:] if place == start else row[:-1] for place, row in enumerate(exits)]
    return tuple(tree), tuple([tuple(order) for order in orders])


def tour_of(web, tree, orders):
    """Return the tour with a tree and orders."""
    check_web(web)
    if not _has_tours(web):
        raise InvalidOperation("the web has no tours")
    start, second = web.ties[0]
    # A place without ties has no entry, so there is no tree, either.
    if not _is_tree(web, start, tree):
        raise InvalidOperation("this is no tree towards the first place of the least tie")
    # The one step of each place that the orders leave out.
    fixed = [second if place == start else entry for place, entry in enumerate(tree)]
    if not _are_orders(web, fixed, orders):
        raise InvalidOperation("these are no orders of the remaining next places")
    _check_size(web)
    exits = [order + (entry,) for order, entry in zip(orders, fixed)]
    exits[start] = (second,) + orders[start]
    return _followed(exits, start)


def lone_trees(web):
    """Return how many trees towards each place a lone web has."""
    check_web(web)
    if web.lone_depth == 0:
        raise NotLone(None)
    degree = len(web[0])
    if degree == 1:
        return 1
    return raised(degree, len(web) - 1 - web.lone_depth)


def lone_tours(web):
    """Return how many tours a lone web has."""
    trees = lone_trees(web)
    return trees * raised(factorial(len(web[0]) - 1), len(web))


def _check_size(web):
    """Refuse a web with too many places."""
    if len(web) > MAX_PLACES:
        raise TooMany(MAX_PLACES)


def _check_small(web):
    """Refuse what is no web, and a web with too many places."""
    check_web(web)
    _check_size(web)


def _check_root(web, root):
    """Refuse what is no web, no place of it, and a web with too many places."""
    check_web(web)
    check_place(web, root)
    _check_size(web)


def _column_masks(web):
    """Return the masks of the columns of a web."""
    return [mask_of(column) for column in web.columns]


def _is_tree(web, root, value):
    """Tell whether the value is a tree towards the root, however many places there are."""
    many = len(web)
    if not isinstance(value, tuple) or len(value) != many or value[root] is not None:
        return False
    behind = [0] * many
    for place, entry in enumerate(value):
        if place != root:
            if not is_within(entry, 0, many - 1) or entry not in web[place]:
                return False
            behind[entry] = behind[entry] | (1 << place)
    return spread_from(behind, 1 << root, 0) == (1 << many) - 1


def _count_trees(web, root):
    """Return how many trees towards the root there are, by the theorem about matrices and trees."""
    if web.lone_depth > 0:
        return lone_trees(web)
    places = [place for place in range(len(web)) if place != root]
    matrix = []
    for one in places:
        row = [-1 if other in web[one] else 0 for other in places]
        row[len(matrix)] = len([other for other in web[one] if other != one])
        matrix.append(row)
    return determinant(matrix)


def _leading_nexts(columns, row, place, root):
    """Return the places next to a place from which steps lead to the root, but not over the place, descending."""
    leading = spread_from(columns, 1 << root, 1 << place)
    return [after for after in row[::-1] if has_place(leading, after)]


def _with_entry(columns, place, entry):
    """Return the columns if the only tie that is left from a place is that to its entry."""
    found = [column & ~(1 << place) for column in columns]
    found[entry] = found[entry] | (1 << place)
    return found


def _has_tours(web):
    """Tell whether the web has a tour: ties that hang together, as many from as to each place."""
    ties = web.ties
    columns = web.columns
    if len(ties) == 0 or any([len(row) != len(columns[place]) for place, row in enumerate(web.rows)]):
        return False
    masks = [mask_of(row) for row in web.rows]
    tied = mask_of([place for place, row in enumerate(web.rows) if len(row) > 0])
    return spread_from(masks, 1 << ties[0][0], 0) == tied


def _is_tour(web, value):
    """Tell whether the value is a tour, however many places there are."""
    ties = web.ties
    if len(ties) == 0 or not isinstance(value, tuple) or len(value) != len(ties) + 1:
        return False
    if not all([is_within(place, 0, len(web) - 1) for place in value]):
        return False
    steps = list(zip(value, value[1:]))
    return steps[0] == ties[0] and value[0] == value[-1] and tuple(sorted(steps)) == ties


def _take_or_put_back(rows, columns, one, other):
    """Take a tie from those that are left, or put it back."""
    rows[one] = rows[one] ^ (1 << other)
    columns[other] = columns[other] ^ (1 << one)


def _first_open(rows, columns, place, ways):
    """Return the least of some next places to which a tour can go from here, None if there is none."""
    alone = rows[place] & (rows[place] - 1) == 0
    left = ways
    while left != 0:
        after = (left & -left).bit_length() - 1
        # All ties that are left have to belong to the tour, so it has to come back here for the other ones.
        if alone or _leads_back(rows[after] | (1 << after), columns, place):
            return after
        left = _above(left, after)
    return None


def _leads_back(nexts, columns, place):
    """Tell whether steps lead to a place from one of these next places."""
    seen = 1 << place
    # A step or two are mostly enough, so that the search goes no farther than it has to.
    layer = seen | columns[place]
    while layer & nexts == 0:
        seen = seen | layer
        layer = step_from(columns, layer) & ~seen
        if layer == 0:
            return False
    return True


def _above(mask, place):
    """Return the mask of those places of a mask that are greater than a place."""
    return mask & -(2 << place)


def _are_orders(web, fixed, orders):
    """Tell whether these are, for each place, the next places but a fixed one, in some order."""
    many = len(web)
    if not isinstance(orders, tuple) or len(orders) != many:
        return False
    for place, order in enumerate(orders):
        if not isinstance(order, tuple) or not all([is_within(after, 0, many - 1) for after in order]):
            return False
        if sorted(order) != [after for after in web[place] if after != fixed[place]]:
            return False
    return True


def _followed(exits, start):
    """Return the walk that leaves each place by its exits, one after the other, as long as there are some."""
    walk = [start]
    used = [0] * len(exits)
    while used[walk[-1]] < len(exits[walk[-1]]):
        place = walk[-1]
        walk.append(exits[place][used[place]])
        used[place] += 1
    return tuple(walk)
