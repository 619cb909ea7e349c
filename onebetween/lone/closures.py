"""Closed sets of places of lone webs, and sets that generate them."""

from onebetween.base.masks import mask_of, places_of, size_of_mask, step_from
from onebetween.base.words import is_ascending
from onebetween.errors import InvalidOperation, TooMany
from onebetween.lone.papers import MAX_DEPTH
from onebetween.webs.checks import check_lone, check_number, check_web

MAX_FORCE = 16
MAX_SETS = 1000


def is_closed(web, depth, value):
    """Tell whether the value is a closed set."""
    _check(web, depth)
    return _is_closed_set(_ties_of(web), depth, value)


def closure(web, depth, places):
    """Return the closed set that some places generate."""
    _check_places(web, depth, places, 0)
    return places_of(_closed(_ties_of(web), depth, mask_of(places)))


def part_web(web, depth, places):
    """Return the web of a closed set with at least one place."""
    _check_places(web, depth, places, 1)
    if not _is_closed_set(_ties_of(web), depth, places):
        raise InvalidOperation("the set is not closed")
    return web.part(places)


def is_generating(web, depth, value):
    """Tell whether the value is a set that generates all places."""
    _check(web, depth)
    if not is_ascending(value, len(web)):
        return False
    return _generates(_ties_of(web), depth, mask_of(value))


def generators(web, depth):
    """Return a set that generates all places, and does not without any of its places."""
    _check(web, depth)
    ties = _ties_of(web)
    found = (1 << len(web)) - 1
    for place in range(len(web)):
        if _generates(ties, depth, found & ~(1 << place)):
            found = found & ~(1 << place)
    return places_of(found)


def fewest_generators(web, depth):
    """Return a set of as few places as possible that generates all places."""
    _check_small(web, depth)
    ties = _ties_of(web)
    everything = (1 << len(web)) - 1
    # Most sets of a web of depth 1 need not be looked at: there each place is needed.
    needed = [place for place in range(len(web)) if not _generates(ties, depth, everything & ~(1 << place))]
    return places_of(_fewest_with(ties, depth, mask_of(needed)))


def closed_sets(web, depth):
    """Return the ascending tuple of all closed sets."""
    _check_small(web, depth)
    return tuple(sorted([places_of(mask) for mask in _closed_masks(web, depth)]))


def is_rise(web, depth, value):
    """Tell whether the value is a rise of closed sets, from the empty set to that of all places."""
    _check(web, depth)
    if not isinstance(value, tuple) or len(value) == 0:
        return False
    ties = _ties_of(web)
    if not all([_is_closed_set(ties, depth, places) for places in value]):
        return False
    if value[0] != () or value[-1] != tuple(range(len(web))):
        return False
    masks = [mask_of(places) for places in value]
    return all([low != high and low & ~high == 0 for low, high in zip(masks, masks[1:])])


def longest_rise(web, depth):
    """Return a rise of as many closed sets as possible."""
    _check_small(web, depth)
    masks = _closed_masks(web, depth)
    if _has_all_sets_closed(web):
        return tuple([tuple(range(many)) for many in range(len(web) + 1)])
    rises = {}
    # Smaller sets come first, so that the rises to all parts of a set are known.
    for mask in sorted(masks, key=size_of_mask):
        best = ()
        for part, rise in rises.items():
            if part & ~mask == 0 and len(rise) > len(best):
                best = rise
        rises[mask] = best + (mask,)
    return tuple([places_of(mask) for mask in rises[(1 << len(web)) - 1]])


def _check(web, depth):
    """Refuse what is no web, no depth, and a web that is not lone of it."""
    check_web(web)
    check_number(depth, 1, MAX_DEPTH)
    check_lone(web, depth)


def _check_places(web, depth, places, least):
    """Refuse what is no set of at least so many places, too."""
    check_web(web)
    check_number(depth, 1, MAX_DEPTH)
    if not is_ascending(places, len(web)) or len(places) < least:
        raise InvalidOperation("the places are no ascending tuple of places")
    check_lone(web, depth)


def _check_small(web, depth):
    """Refuse a web with too many places to look at all sets, too."""
    _check(web, depth)
    if len(web) > MAX_FORCE:
        raise TooMany(MAX_FORCE)


def _ties_of(web):
    """Return the pair of the masks of the rows and of those of the columns."""
    return [mask_of(row) for row in web.rows], [mask_of(column) for column in web.columns]


def _closed(ties, depth, mask):
    """Return the mask of the closed set that the places of a mask generate."""
    ahead = -1
    found = mask
    while found != ahead:
        ahead = found
        found = ahead | _walked(ties, depth, ahead)
    return found


def _walked(ties, depth, mask):
    """Return the mask of all places on the walks of so many steps between places of a mask."""
    rows, columns = ties
    forth = [mask]
    back = [mask]
    for _ in range(depth):
        forth.append(step_from(rows, forth[-1]))
        back.append(step_from(columns, back[-1]))
    found = 0
    # A place that is led to and leads back, by as many steps in all, is on such a walk.
    for steps in range(depth + 1):
        found = found | (forth[steps] & back[depth - steps])
    return found


def _generates(ties, depth, mask):
    """Tell whether the places of a mask generate all places."""
    return _closed(ties, depth, mask) == (1 << len(ties[0])) - 1


def _is_closed_set(ties, depth, value):
    """Tell whether the value is a closed set of a web with these ties that is lone of the depth."""
    if not is_ascending(value, len(ties[0])):
        return False
    mask = mask_of(value)
    return _walked(ties, depth, mask) & ~mask == 0


def _has_all_sets_closed(web):
    """Tell whether each set of places of a lone web is closed: then walks of one step pass no third place."""
    return web.lone_depth == 1


def _closed_masks(web, depth):
    """Return the list of the masks of all closed sets."""
    if _has_all_sets_closed(web):
        many = 1 << len(web)
        _check_sets(many)
        return list(range(many))
    ties = _ties_of(web)
    found = {0: True}
    # The closed sets to which no place has been added yet.
    left = [0]
    while len(left) > 0:
        mask = left.pop()
        for place in range(len(web)):
            wider = _closed(ties, depth, mask | (1 << place))
            if wider not in found:
                found[wider] = True
                left.append(wider)
                _check_sets(len(found))
    return list(found)


def _check_sets(many):
    """Refuse so many closed sets if these are too many."""
    if many > MAX_SETS:
        raise TooMany(MAX_SETS)


def _fewest_with(ties, depth, needed):
    """Return the mask of as few places as possible, all those that are needed among them, that generate all."""
    layer = {needed: True}
    while True:
        for mask in layer:
            if _generates(ties, depth, mask):
                return mask
        layer = {mask | (1 << place): True for mask in layer for place in range(len(ties[0]))}
