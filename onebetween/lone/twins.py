"""Twins of webs that are lone of depth 2, and the classes of the places next to them, without any check."""

from onebetween.base.masks import mask_of
from onebetween.webs.webs import Web


def twin_pairs(web):
    """Return the ascending list of the pairs of twins."""
    groups = {}
    for place, column in enumerate(web.columns):
        groups.setdefault(column, []).append(place)
    pairs = []
    for group in groups.values():
        for at, one in enumerate(group):
            pairs.extend([(one, other) for other in group[at + 1:]])
    return sorted(pairs)


def are_twins(web, u, v):
    """Tell whether two places are twins."""
    columns = web.columns
    return u != v and columns[u] == columns[v]


def classes_of(web, u, v):
    """Return the ascending list of the classes at two twins."""
    rows = web.rows
    found = []
    # Two places with equal rows are mates, and have no others, since the rows behind a twin have no place in common.
    alone = {rows[place]: place for place in rows[u]}
    theirs = []
    for place in rows[v]:
        if rows[place] in alone:
            found.append(((alone.pop(rows[place]),), (place,)))
        else:
            theirs.append(place)
    return sorted(found + _classes_among(rows, list(alone.values()), theirs))


def _classes_among(rows, mine, theirs):
    """Return the list of the classes of some places next to one twin, and some next to the other one."""
    # For each class so far the mask of the places next to those of mine that are in it.
    groups = [(mask_of(rows[place]), (place,), ()) for place in mine]
    for place in theirs:
        nexts = mask_of(rows[place])
        joined = (0, (), (place,))
        apart = []
        for group in groups:
            if group[0] & nexts == 0:
                apart.append(group)
            else:
                joined = (joined[0] | group[0], joined[1] + group[1], joined[2] + group[2])
        groups = apart + [joined]
    return [(tuple(sorted(group[1])), tuple(sorted(group[2]))) for group in groups]


def free_of(web, u, v):
    """Return the ascending list of the free classes at two twins."""
    return [group for group in classes_of(web, u, v) if u not in group[0] + group[1] and v not in group[0] + group[1]]


def free_moves(web):
    """Yield for each free class at twins u and v, with u less than v, the tuple of them and its sides, ascending."""
    for u, v in twin_pairs(web):
        for mine, theirs in free_of(web, u, v):
            yield u, v, mine, theirs


def with_switch(web, u, v, classes):
    """Return the web behind a switch of some free classes."""
    mine = [place for group, _ in classes for place in group]
    theirs = [place for _, group in classes for place in group]
    rows = list(web.rows)
    rows[u] = tuple(sorted([place for place in web[u] if place not in mine] + theirs))
    rows[v] = tuple(sorted([place for place in web[v] if place not in theirs] + mine))
    return Web(tuple(rows))
