"""The only walks of lone webs, and long walks by their index."""

from onebetween.base.numbers import figures_of, number_of
from onebetween.base.words import is_count, is_within
from onebetween.errors import InvalidNumber, InvalidOperation, InvalidWalk
from onebetween.lone.papers import MAX_DEPTH
from onebetween.webs.checks import check_lone, check_number, check_place, check_web, has_depth
from onebetween.webs.steps import is_walk_of, walks_from
from onebetween.webs.webs import MAX_PLACES, Web

MAX_STEPS = 100


def the_walk(web, depth, one, other):
    """Return the only walk of so many steps from the one place to the other one."""
    _check_ends(web, depth, one, other)
    check_lone(web, depth)
    return _only_walk(web, depth, one, other)


def between(web, one, other):
    """Return the place between two places of a web that is lone of depth 2."""
    _check_ends(web, 2, one, other)
    check_lone(web, 2)
    return _only_walk(web, 2, one, other)[1]


def middle_table(web):
    """Return for each place x the tuple of the places between x and all places."""
    check_web(web)
    check_lone(web, 2)
    return _table_of(web)


def is_middle_table(value):
    """Tell whether the value is a middle table of at most 256 places."""
    return _web_with_table(value) is not None


def web_of_table(table):
    """Return the web that has a middle table."""
    web = _web_with_table(table)
    if web is None:
        raise InvalidOperation("the value is no middle table")
    return web


def address(web, depth, start, place):
    """Return the labels of the steps from a start to a place."""
    _check_ends(web, depth, start, place)
    check_lone(web, depth)
    return _labels_of(web, _only_walk(web, depth, start, place))


def place_at(web, depth, start, labels):
    """Return the place that has an address from a start."""
    check_web(web)
    check_number(depth, 1, MAX_DEPTH)
    check_place(web, start)
    check_lone(web, depth)
    if not isinstance(labels, tuple) or len(labels) != depth:
        raise InvalidOperation("the labels are no tuple of as many integers as the depth")
    if not all([is_within(label, 0, len(web[0]) - 1) for label in labels]):
        raise InvalidOperation("the labels are not integers below the degree")
    return _followed(web, start, labels)[-1]


def long_walk_at(web, depth, one, other, steps, index):
    """Return the walk of so many steps with an index among those between two places."""
    _check_ends(web, depth, one, other)
    check_number(steps, depth, MAX_STEPS)
    if not is_count(index):
        raise InvalidNumber(index)
    check_lone(web, depth)
    # All steps but the last ones are free, so the index in base d tells their labels.
    labels = figures_of(len(web[0]), steps - depth, index)
    ahead = _followed(web, one, labels)
    return ahead[:-1] + _only_walk(web, depth, ahead[-1], other)


def long_walk_index(web, depth, walk):
    """Return the index of a walk among those with its ends and its steps."""
    check_web(web)
    check_number(depth, 1, MAX_DEPTH)
    if not is_walk_of(web, walk, depth, MAX_STEPS):
        raise InvalidWalk("the value is no walk of this web with so many steps")
    check_lone(web, depth)
    return number_of(len(web[0]), _labels_of(web, walk[:-depth]))


def steps_to(web, depth, one, other):
    """Return the least number of steps of a walk from the one place to the other one."""
    _check_ends(web, depth, one, other)
    check_lone(web, depth)
    ends = [one]
    steps = 0
    while other not in ends:
        ends = [place for end in ends for place in web[end]]
        steps += 1
    return steps


def _check_ends(web, depth, one, other):
    """Refuse what is no web, no depth and no two places of the web."""
    check_web(web)
    check_number(depth, 1, MAX_DEPTH)
    check_place(web, one)
    check_place(web, other)


def _only_walk(web, depth, one, other):
    """Return the only walk of so many steps between two places of a web that is lone."""
    rows = web.rows
    return [walk + (other,) for walk in walks_from(web, one, depth - 1) if other in rows[walk[-1]]][0]


def _table_of(web):
    """Return the middle table of a web that is lone of depth 2."""
    table = []
    for one in range(len(web)):
        middles = {other: middle for middle in web[one] for other in web[middle]}
        table.append(tuple([middles[other] for other in range(len(web))]))
    return tuple(table)


def _web_with_table(value):
    """Return the web that has the value as its middle table, None if there is none."""
    if not isinstance(value, tuple) or not 1 <= len(value) <= MAX_PLACES:
        return None
    many = len(value)
    for row in value:
        if not isinstance(row, tuple) or len(row) != many:
            return None
        if not all([is_within(place, 0, many - 1) for place in row]):
            return None
    # Middle tables are just those of lone webs of depth 2, and a row has all places next to one.
    # This is faster than the equality for all three places, of which there are 256 ** 3.
    web = Web(tuple([tuple(sorted(set(row))) for row in value]))
    if has_depth(web, 2) and _table_of(web) == value:
        return web
    return None


def _labels_of(web, walk):
    """Return for each step of a walk the index of the place that is taken."""
    return tuple([web[place].index(after) for place, after in zip(walk, walk[1:])])


def _followed(web, start, labels):
    """Return the walk from a start by steps with these labels."""
    walk = [start]
    for label in labels:
        walk.append(web[walk[-1]][label])
    return tuple(walk)
