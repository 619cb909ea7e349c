"""Roots of lone webs that are line webs, and the words of those that are word webs."""

from onebetween.base.words import is_ascending, is_count, is_within
from onebetween.errors import InvalidOperation
from onebetween.lone.papers import MAX_DEPTH
from onebetween.webs.checks import check_lone, check_number, check_web
from onebetween.webs.webs import Web


def is_line(web, depth):
    """Tell whether a web is alike to a line web."""
    _check(web, 2, depth)
    return _first_clash(web) is None


def clashing_pair(web, depth):
    """Return an ascending pair of places that clash, None if there is none."""
    _check(web, 2, depth)
    return _first_clash(web)


def root_of(web, depth):
    """Return a pair of a root and of a tie of it for each place."""
    return plain_root(web, depth)


def plain_root(web, depth):
    """Return the pair of a root and ties in which the places of the root are the different rows."""
    _check(web, 2, depth)
    if _first_clash(web) is not None:
        raise InvalidOperation("the web is not alike to a line web")
    return _root_and_ties(web)


def is_root(web, depth, value):
    """Tell whether the value is a pair of a root and of a tie of it for each place."""
    _check(web, 2, depth)
    if not isinstance(value, tuple) or len(value) != 2:
        return False
    root, ties = value
    if not isinstance(root, Web) or not isinstance(ties, tuple) or len(ties) != len(web):
        return False
    if not all([tie in root for tie in ties]) or tuple(sorted(ties)) != root.ties:
        return False
    starts = _grouped([start for start, _ in ties])
    return all([row == starts.get(end, ()) for row, (_, end) in zip(web.rows, ties)])


def word_names(web, depth):
    """Return a word for each place of a web that is alike to a word web, None if it is not."""
    _check(web, 1, depth)
    roots = _roots_of(web, depth)
    if len(roots) < depth:
        return None
    return _names_by(roots)


def is_word_names(web, depth, value):
    """Tell whether the value has the words of the places of a web."""
    _check(web, 1, depth)
    return _are_names(web, depth, value)


def word_paper(web, depth):
    """Return the words of the places, or a clash behind some roots."""
    _check(web, 1, depth)
    roots = _roots_of(web, depth)
    if len(roots) == depth:
        return "words", _names_by(roots)
    one, other = _first_clash(roots[-1][0])
    return "clash", len(roots) - 1, one, other


def is_word_paper(web, depth, value):
    """Tell whether the value has the words of the places, or a clash behind some roots."""
    _check(web, 1, depth)
    if not isinstance(value, tuple) or len(value) < 2:
        return False
    if value[0] == "words" and len(value) == 2:
        return _are_names(web, depth, value[1])
    if value[0] == "clash" and len(value) == 4:
        return _shows_clash(web, depth, value[1], value[2:])
    return False


def _check(web, least, depth):
    """Refuse what is no web, no depth from the least one on, and a web that is not lone of it."""
    check_web(web)
    check_number(depth, least, MAX_DEPTH)
    check_lone(web, depth)


def _first_clash(web):
    """Return the first place that clashes with one ahead, behind that one, None if none clash."""
    rows = web.rows
    owners = {}
    for place, row in enumerate(rows):
        for after in row:
            owner = owners.setdefault(after, place)
            if rows[owner] != row:
                return owner, place
    return None


def _root_and_ties(web):
    """Return the plain root of a web without clashes, and the ties of its places."""
    rows = web.rows
    numbers = {}
    starts = {}
    for row in rows:
        if row not in numbers:
            numbers[row] = len(numbers)
            for after in row:
                starts[after] = numbers[row]
    ties = tuple([(starts[place], numbers[row]) for place, row in enumerate(rows)])
    ends = [[] for _ in numbers]
    for start, end in sorted(ties):
        ends[start].append(end)
    return Web(tuple([tuple(row) for row in ends])), ties


def _roots_of(web, depth):
    """Return the pairs of a web and the ties of its places, from this web on down to depth 1, or to a clash.

    The ties of a web are those of the root behind it; the last pair has None.
    """
    found = []
    made = web
    for _ in range(depth - 1):
        if _first_clash(made) is not None:
            break
        root, ties = _root_and_ties(made)
        found.append((made, ties))
        made = root
    found.append((made, None))
    return found


def _names_by(roots):
    """Return the names of the first web of these roots, down to one of depth 1."""
    names = tuple([(place,) for place in range(len(roots[-1][0]))])
    for _, ties in roots[:-1][::-1]:
        # The word of a tie is that of its start, with the last letter of its end.
        names = tuple([names[start] + names[end][-1:] for start, end in ties])
    return names


def _are_names(web, depth, value):
    """Tell whether the value has the words of the places of a web that is lone of this depth."""
    rows = web.rows
    if not isinstance(value, tuple) or len(value) != len(rows):
        return False
    if not all([_is_word(word, len(rows[0]), depth) for word in value]) or len(set(value)) < len(rows):
        return False
    starts = _grouped([word[:-1] for word in value])
    return all([row == starts.get(word[1:], ()) for row, word in zip(rows, value)])


def _is_word(value, degree, depth):
    """Tell whether the value is a tuple of so many integers below the degree."""
    if not isinstance(value, tuple) or len(value) != depth:
        return False
    return all([is_within(letter, 0, degree - 1) for letter in value])


def _grouped(labels):
    """Return the dict from each label to the ascending tuple of the places that have it."""
    groups = {}
    for place, label in enumerate(labels):
        groups.setdefault(label, []).append(place)
    return {label: tuple(places) for label, places in groups.items()}


def _shows_clash(web, depth, many, pair):
    """Tell whether an ascending pair of places clashes behind so many roots."""
    # A web of depth 1 has equal rows, and no root.
    if not is_count(many) or many >= depth - 1:
        return False
    made = web
    for _ in range(many):
        if _first_clash(made) is not None:
            return False
        made = _root_and_ties(made)[0]
    if not is_ascending(pair, len(made)):
        return False
    one, other = [made[place] for place in pair]
    return one != other and any([place in other for place in one])
