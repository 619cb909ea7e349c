"""Maps between webs that keep ties."""

from onebetween.base.masks import mask_of
from onebetween.base.numbers import raised
from onebetween.base.words import is_arrangement, is_count, is_within
from onebetween.errors import InvalidOperation, NotLone, TooMany
from onebetween.lone.spreading import found_maps, keeps_ties, put_down, take_in, walk_table
from onebetween.webs.checks import check_web

MAX_PLACES = 27

# How many places a web may have if all its maps to itself are told, and one of depth 1.
_MAX_OWN = 16
_MAX_FLAT = 7


def is_map(one, other, value):
    """Tell whether the value is a map from the one web to the other one."""
    _check_webs(one, other)
    return _is_map(one, other, value)


def spread(one, other, seeds):
    """Return the map that does to some places what the seeds tell, None if there is none."""
    _check_webs(one, other)
    if not _are_seeds(one, other, seeds):
        raise InvalidOperation("the seeds are no dict from places to places")
    _check_alike_depths(one, other)
    _check_sizes(one, other)
    value = _spread(one, other, seeds)
    # Where walks meet, or seeds are on walks between others, unlike places may be asked for.
    if any([value[place] != seeds[place] for place in seeds]) or not _is_map(one, other, value):
        return None
    return value


def each_map(one, other):
    """Yield all maps from the one web to the other one, ascending."""
    _check_webs(one, other)
    _check_alike_depths(one, other)
    _check_sizes(one, other)
    yield from found_maps(one, other, False)


def count_maps(one, other):
    """Return how many maps lead from the one web to the other one."""
    _check_webs(one, other)
    _check_alike_depths(one, other)
    if one.lone_depth == 1:
        return raised(len(other), len(one))
    _check_sizes(one, other)
    many = 0
    for _ in found_maps(one, other, False):
        many += 1
    return many


def image_of(one, other, value):
    """Return the ascending tuple of the places to which a map leads."""
    _check_webs(one, other)
    if not _is_map(one, other, value):
        raise InvalidOperation("the value is no map")
    _check_alike_depths(one, other)
    _check_sizes(one, other)
    return tuple(sorted(set(value)))


def behind(first, second):
    """Return the map that is made of two, the first one ahead."""
    if not _are_counts(first) or not _are_counts(second):
        raise InvalidOperation("the two are no tuples of integers of at least 0")
    if not all([place < len(second) for place in first]):
        raise InvalidOperation("the first map leads to a place that the second one has not")
    return tuple([second[place] for place in first])


def are_alike(one, other):
    """Tell whether there is a likeness of the two webs."""
    return any_likeness(one, other) is not None


def any_likeness(one, other):
    """Return a likeness of the two webs, None if there is none."""
    _check_webs(one, other)
    _check_lone(one, other)
    _check_sizes(one, other)
    if len(one) != len(other) or one.lone_depth != other.lone_depth:
        return None
    for value in found_maps(one, other, True):
        return value
    return None


def is_likeness(one, other, value):
    """Tell whether the value is a map that has each place of the other web once."""
    _check_webs(one, other)
    return is_arrangement(value, len(other)) and _is_map(one, other, value)


def own_maps(web):
    """Return the ascending tuple of all likenesses of a web with itself."""
    check_web(web)
    _check_lone(web, web)
    if len(web) > _MAX_OWN:
        raise TooMany(_MAX_OWN)
    if web.lone_depth == 1:
        return _orders(len(web))
    return tuple(found_maps(web, web, True))


def folds(one, other):
    """Tell whether a map from the one web leads to all places of the other one."""
    _check_webs(one, other)
    _check_alike_depths(one, other)
    _check_sizes(one, other)
    if one.lone_depth == 1 or len(one) < len(other):
        return len(one) >= len(other)
    for value in found_maps(one, other, False):
        if len(set(value)) == len(other):
            return True
    return False


def _check_webs(one, other):
    """Refuse what are not two webs."""
    check_web(one)
    check_web(other)


def _check_lone(one, other):
    """Refuse webs that are not lone."""
    if one.lone_depth == 0 or other.lone_depth == 0:
        raise NotLone(None)


def _check_alike_depths(one, other):
    """Refuse webs that are not lone, or of unlike depths."""
    _check_lone(one, other)
    if one.lone_depth != other.lone_depth:
        raise InvalidOperation("the depths of the webs are not equal")


def _check_sizes(one, other):
    """Refuse webs with too many places."""
    if max(len(one), len(other)) > MAX_PLACES:
        raise TooMany(MAX_PLACES)


def _are_places(web, values):
    """Tell whether these are all places of the web."""
    return all([is_within(value, 0, len(web) - 1) for value in values])


def _is_map(one, other, value):
    """Tell whether the value is a tuple of places of the other web that keeps the ties of the one web."""
    if not isinstance(value, tuple) or len(value) != len(one) or not _are_places(other, value):
        return False
    return keeps_ties(one, [mask_of(row) for row in other.rows], value)


def _are_seeds(one, other, value):
    """Tell whether the value is a dict from places of the one web to places of the other one."""
    return isinstance(value, dict) and _are_places(one, list(value)) and _are_places(other, list(value.values()))


def _spread(one, other, seeds):
    """Return the tuple of places that the seeds tell if walks are taken to walks."""
    table = walk_table(one)
    others = walk_table(other)
    known = {}
    values = [0] * len(one)
    for place in sorted(seeds):
        if place not in known:
            values[place] = seeds[place]
            put_down(values, others, take_in(table, known, place))
    if len(known) < len(one):
        raise InvalidOperation("the seeds do not generate the whole web")
    return tuple(values)


def _orders(many):
    """Return the ascending tuple of all orders of so many places."""
    if many > _MAX_FLAT:
        raise TooMany(_MAX_FLAT)
    orders = [()]
    for _ in range(many):
        orders = [order + (place,) for order in orders for place in range(many) if place not in order]
    return tuple(orders)


def _are_counts(value):
    """Tell whether the value is a tuple of integers of at least 0."""
    return isinstance(value, tuple) and all([is_count(number) for number in value])
