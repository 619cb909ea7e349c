"""Switches: other lone webs of depth 2 by a change of the ties of two twins."""

from onebetween.base.words import is_ascending
from onebetween.errors import InvalidOperation
from onebetween.lone.twins import are_twins, classes_of, free_moves, free_of, twin_pairs, with_switch
from onebetween.webs.checks import check_lone, check_place, check_web


def twins_of(web, *, backward=False):
    """Return the ascending tuple of the pairs of twins."""
    _check(web, backward)
    return tuple(twin_pairs(_as_read(web, backward)))


def classes_at(web, u, v, *, backward=False):
    """Return the ascending tuple of the classes at two twins."""
    return tuple(classes_of(_with_twins(web, u, v, backward), u, v))


def free_classes(web, u, v, *, backward=False):
    """Return the ascending tuple of the classes at two twins that can be switched."""
    return tuple(free_of(_with_twins(web, u, v, backward), u, v))


def switched(web, u, v, places, *, backward=False):
    """Return the web behind a switch of the free classes with these places next to u."""
    read = _with_twins(web, u, v, backward)
    return _as_read(_switched(read, u, v, places), backward)


def switched_all(web, moves, *, backward=False):
    """Return the web behind some switches, one after the other."""
    check_web(web)
    if not isinstance(moves, tuple) or not all([isinstance(move, tuple) and len(move) == 3 for move in moves]):
        raise InvalidOperation("the moves are no tuple of triples")
    _check(web, backward)
    made = web
    for u, v, places in moves:
        made = switched(made, u, v, places, backward=backward)
    return made


def each_switch(web, *, backward=False):
    """Yield all moves that switch a single free class, ascending."""
    _check(web, backward)
    read = _as_read(web, backward)
    for u, v, mine, _ in free_moves(read):
        yield u, v, mine


def is_switch(web, other, *, backward=False):
    """Tell whether the other web comes about from the web by some switch."""
    check_web(web)
    check_web(other)
    _check(web, backward)
    return _is_behind_switch(_as_read(web, backward), _as_read(other, backward))


def _check(web, backward):
    """Refuse what is no web, no boolean, and a web that is not lone of depth 2."""
    check_web(web)
    _check_boolean(backward)
    check_lone(web, 2)


def _check_boolean(backward):
    """Refuse what is no boolean."""
    if not isinstance(backward, bool):
        raise InvalidOperation("backward is neither True nor False")


def _as_read(web, backward):
    """Return the web, or the web read backwards."""
    if backward:
        return web.turned()
    return web


def _with_twins(web, u, v, backward):
    """Return the web as it is read, in which u and v have to be twins."""
    check_web(web)
    check_place(web, u)
    check_place(web, v)
    _check(web, backward)
    read = _as_read(web, backward)
    if not are_twins(read, u, v):
        raise InvalidOperation("the two places are no twins")
    return read


def _switched(web, u, v, places):
    """Return the web behind a switch at twins of the free classes that have just these places."""
    if not is_ascending(places, len(web)):
        raise InvalidOperation("the places are no ascending tuple of places")
    chosen = [group for group in free_of(web, u, v) if any([place in places for place in group[0]])]
    if tuple(sorted([place for mine, _ in chosen for place in mine])) != places:
        raise InvalidOperation("the places are not those of some free classes")
    return with_switch(web, u, v, chosen)


def _is_behind_switch(web, other):
    """Tell whether the other web comes about from the web by a switch of some free classes at twins."""
    if len(web) != len(other):
        return False
    changed = [place for place in range(len(web)) if web[place] != other[place]]
    if len(changed) == 0:
        return len(twin_pairs(web)) > 0
    # A class has places next to each of its twins, so that a switch changes both rows.
    if len(changed) != 2 or not are_twins(web, changed[0], changed[1]):
        return False
    u, v = changed
    chosen = [group for group in free_of(web, u, v) if group[1][0] in other[u]]
    return with_switch(web, u, v, chosen) == other
