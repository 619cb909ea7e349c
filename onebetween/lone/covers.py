"""Exact covers: pieces that together cover each bit of a mask once, by one of their options each."""

from onebetween.base.masks import union_of


def ways_to_cover(pieces, need, most):
    """Return the list of groups of pieces, each one with at most so many ways in which it covers its part of the need.

    A piece is a list of options, pairs of a choice and of a mask in the need. A way is a tuple of choices. The need is
    covered by one way of each group; if that cannot be, one group has no way.
    """
    groups = []
    for piece in pieces:
        mask = union_of([part for _, part in piece])
        joined = [piece]
        apart = []
        for group in groups:
            if group[0] & mask == 0:
                apart.append(group)
            else:
                mask, joined = mask | group[0], group[1] + joined
        groups = apart + [(mask, joined)]
    if union_of([mask for mask, _ in groups]) != need:
        return [[]]
    return [_ways_of(group, mask, most) for mask, group in groups]


def _ways_of(pieces, need, most):
    """Return the list of at most so many ways in which the pieces cover the need."""
    found = []
    # What is chosen so far, the pieces that are left, and what they have to cover.
    left = [((), pieces, need)]
    while len(left) > 0 and len(found) < most:
        chosen, rest, missing = left.pop()
        # A piece without options ends the search here, and one with a single option goes ahead of choices.
        fitting = sorted([[option for option in piece if option[1] & ~missing == 0] for piece in rest], key=len)
        if len(fitting) == 0 and missing == 0:
            found.append(chosen)
        elif len(fitting) > 0 and union_of([mask for piece in fitting for _, mask in piece]) == missing:
            others = fitting[1:]
            left.extend([(chosen + (choice,), others, missing & ~mask) for choice, mask in fitting[0]])
    return found
