"""Sets of places as integers: bit x of a mask tells whether the place x is in the set."""

from onebetween.base.numbers import exponent_of


def mask_of(places):
    """Return the mask of some different places."""
    return sum([1 << place for place in places])


def places_of(mask):
    """Return the ascending tuple of the places of a mask."""
    # Long ways through a web go from one place to one place, which is found without its figures.
    if mask != 0 and mask & (mask - 1) == 0:
        return (mask.bit_length() - 1,)
    return tuple([place for place, bit in enumerate(f"{mask:b}"[::-1]) if bit == "1"])


def size_of_mask(mask):
    """Return how many places a mask has."""
    return f"{mask:b}".count("1")


def has_place(mask, place):
    """Tell whether a place is in a mask."""
    return (mask >> place) & 1 == 1


def union_of(masks):
    """Return the mask of all places of some masks."""
    union = 0
    for mask in masks:
        union = union | mask
    return union


def step_from(masks, mask):
    """Return the mask of the places that are next to one of a mask, if masks are those of the rows."""
    return union_of([masks[place] for place in places_of(mask)])


def spread_from(masks, start, barred):
    """Return the mask of what steps from the places of a mask lead to, never into the barred places."""
    seen = start
    layer = start
    while layer != 0:
        layer = step_from(masks, layer) & ~seen & ~barred
        seen = seen | layer
    return seen


def reached(rows, steps):
    """Return for each place the mask of the places to which walks of so many steps lead."""
    found = [1 << place for place in range(len(rows))]
    stride = [mask_of(row) for row in rows]
    # Squaring keeps 200 steps in a web with all ties short.
    for bit in reversed(range(steps.bit_length())):
        found = [step_from(found, mask) for mask in found]
        if (steps >> bit) & 1 == 1:
            found = [step_from(found, mask) for mask in stride]
    return found


def lone_depth_of(rows):
    """Return the least depth of which the web with these rows is lone, 0 if there is none."""
    many = len(rows)
    degree = len(rows[0])
    if degree == 0 or any([len(row) != degree for row in rows]):
        return 0
    if many == 1:
        return 1
    depth = exponent_of(degree, many)
    if depth is None:
        return 0
    # As many walks as places begin at each place: if they reach all places, each one is reached once.
    if all([mask == (1 << many) - 1 for mask in reached(rows, depth)]):
        return depth
    return 0
