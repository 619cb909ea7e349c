"""Whether webs are lone, and papers that show it."""

from onebetween.base.masks import has_place, mask_of, places_of, size_of_mask
from onebetween.base.words import is_ascending, is_within
from onebetween.errors import TooMany
from onebetween.webs.checks import check_number, check_web, has_depth
from onebetween.webs.steps import is_walk_of, layers_from, walks_from

MAX_DEPTH = 8
MAX_PAPER = 64


def is_lone(web, depth):
    """Tell whether a web is lone of a depth."""
    _check(web, depth)
    return has_depth(web, depth)


def depth_of(web):
    """Return the least depth of which a web is lone, None if there is none."""
    check_web(web)
    if web.lone_depth == 0:
        return None
    return web.lone_depth


def flaws(web, depth):
    """Return how many pairs of places no walk joins, and how many at least two walks join."""
    _check(web, depth)
    ways = _ways(web, depth)[-1]
    many = len(web)
    joined = sum([size_of_mask(once) for once, _ in ways])
    return many * many - joined, sum([size_of_mask(twice) for _, twice in ways])


def two_walks(web, depth):
    """Return a pair of different walks between the same places, None if there is none."""
    _check(web, depth)
    levels = _ways(web, depth)
    for one, (_, twice) in enumerate(levels[depth]):
        if twice != 0:
            return _part_ways(web, levels, one, places_of(twice)[0])
    return None


def missing_pair(web, depth):
    """Return a pair of places without a walk from the one to the other, None if there is none."""
    _check(web, depth)
    everything = (1 << len(web)) - 1
    for one, (once, _) in enumerate(_ways(web, depth)[depth]):
        if once != everything:
            return one, places_of(everything & ~once)[0]
    return None


def lone_paper(web, depth):
    """Return a paper that shows that a web is lone of a depth, or that it is not."""
    _check_small(web, depth)
    if has_depth(web, depth):
        return "lone", tuple([_by_ends(walks_from(web, place, depth)) for place in range(len(web))])
    walks = two_walks(web, depth)
    if walks is not None:
        return "two", walks[0], walks[1]
    one, other = missing_pair(web, depth)
    return "none", one, other, layers_from(web, one, depth)


def is_lone_paper(web, depth, value):
    """Tell whether the value is a lone paper of a web and a depth."""
    _check_small(web, depth)
    if not isinstance(value, tuple) or len(value) < 2:
        return False
    if value[0] == "lone" and len(value) == 2:
        return _shows_lone(web, depth, value[1])
    if value[0] == "two" and len(value) == 3:
        return _shows_two(web, depth, value[1], value[2])
    if value[0] == "none" and len(value) == 4:
        return _shows_none(web, depth, value[1:])
    return False


def _check(web, depth):
    """Refuse what is no web, and what is no depth."""
    check_web(web)
    check_number(depth, 1, MAX_DEPTH)


def _check_small(web, depth):
    """Refuse a web that is too great for a paper, too."""
    _check(web, depth)
    if len(web) > MAX_PAPER:
        raise TooMany(MAX_PAPER)


def _ways(web, depth):
    """Return for 0 to depth steps, and each place, the masks of where walks lead: any, and at least two."""
    rows = web.rows
    levels = [[(1 << place, 0) for place in range(len(rows))]]
    for _ in range(depth):
        levels.append(_one_step_more(rows, levels[-1]))
    return levels


def _one_step_more(rows, ways):
    """Return the masks for walks with one step more, ahead of the others."""
    # Places with equal rows have equal masks.
    found = {}
    for row in rows:
        if row not in found:
            found[row] = _merged([ways[place] for place in row])
    return [found[row] for row in rows]


def _merged(ways):
    """Return the masks of where walks lead if they go one of these ways."""
    once = 0
    twice = 0
    for other_once, other_twice in ways:
        twice = twice | other_twice | (once & other_once)
        once = once | other_once
    return once, twice


def _part_ways(web, levels, one, other):
    """Return two different walks from the one place to the other one."""
    ahead = (one,)
    left = len(levels) - 2
    nexts = _nexts(web, levels[left], one, other)
    while len(nexts) == 1:
        ahead = ahead + (nexts[0],)
        left -= 1
        nexts = _nexts(web, levels[left], ahead[-1], other)
    return tuple([ahead + _some_walk(web, levels, place, left, other) for place in nexts[:2]])


def _some_walk(web, levels, one, steps, other):
    """Return the first walk of so many steps from the one place to the other one."""
    walk = (one,)
    for left in reversed(range(steps)):
        walk = walk + (_nexts(web, levels[left], walk[-1], other)[0],)
    return walk


def _nexts(web, ways, place, other):
    """Return the places next to a place from which these ways lead to the other one."""
    return [after for after in web[place] if has_place(ways[after][0], other)]


def _by_ends(walks):
    """Return the tuple of walks to all places, in the order of these places."""
    found = {walk[-1]: walk for walk in walks}
    return tuple([found[place] for place in range(len(found))])


def _shows_lone(web, depth, walks):
    """Tell whether these are a table of walks between all places, in a web of the right size."""
    many = len(web)
    if not isinstance(walks, tuple) or len(walks) != many or not _has_right_size(web, depth):
        return False
    for one, row in enumerate(walks):
        if not isinstance(row, tuple) or len(row) != many:
            return False
        for other, walk in enumerate(row):
            if not is_walk_of(web, walk, depth, depth) or (walk[0], walk[-1]) != (one, other):
                return False
    return True


def _has_right_size(web, depth):
    """Tell whether all rows have one length, whose power is the number of places."""
    sizes = [len(row) for row in web.rows]
    many = 1
    for _ in range(depth):
        many = many * sizes[0]
    return min(sizes) == max(sizes) and many == len(web)


def _shows_two(web, depth, one, other):
    """Tell whether these are two different walks between the same places."""
    if not is_walk_of(web, one, depth, depth) or not is_walk_of(web, other, depth, depth):
        return False
    return one != other and one[0] == other[0] and one[-1] == other[-1]


def _shows_none(web, depth, told):
    """Tell whether these are two places, and layers from the one that do not reach the other one."""
    one, other, layers = told
    many = len(web)
    if not is_within(one, 0, many - 1) or not is_within(other, 0, many - 1):
        return False
    if not isinstance(layers, tuple) or len(layers) != depth + 1:
        return False
    if not all([is_ascending(layer, many) for layer in layers]):
        return False
    if one not in layers[0] or other in layers[depth]:
        return False
    return all([_leads_into(web, layer, after) for layer, after in zip(layers, layers[1:])])


def _leads_into(web, layer, after):
    """Tell whether each place next to one of the layer is in the layer behind it."""
    mask = mask_of(after)
    return all([mask_of(web[place]) & ~mask == 0 for place in layer])
