"""Steps along the ties of a web, without any check of the web."""

from onebetween.base.masks import mask_of, places_of, union_of
from onebetween.base.words import is_within


def is_walk_of(web, value, least, most):
    """Tell whether the value is a walk of the web of at least and at most so many steps."""
    if not isinstance(value, tuple) or not least <= len(value) - 1 <= most:
        return False
    if not all([is_within(place, 0, len(web) - 1) for place in value]):
        return False
    rows = web.rows
    return all([after in rows[place] for place, after in zip(value, value[1:])])


def walks_from(web, one, steps):
    """Return the list of all walks of so many steps from a place, ascending."""
    rows = web.rows
    walks = [(one,)]
    for _ in range(steps):
        walks = [walk + (place,) for walk in walks for place in rows[walk[-1]]]
    return walks


def layers_from(web, one, steps):
    """Return the tuple of the places to which walks of 0, 1 and so on steps lead."""
    masks = [mask_of(row) for row in web.rows]
    layers = [(one,)]
    for _ in range(steps):
        layers.append(places_of(union_of([masks[place] for place in layers[-1]])))
    return tuple(layers)


def middle_of(web, one, other):
    """Return the place between two places of a web that is lone of depth 2."""
    rows = web.rows
    return [middle for middle in rows[one] if other in rows[middle]][0]
