"""Texts of webs, walks and lone papers, and what texts tell."""

from math import isqrt

from onebetween.base.words import is_ascending, is_number_word, is_within
from onebetween.errors import InvalidPaper, InvalidWalk, ParseError
from onebetween.webs.checks import check_web
from onebetween.webs.webs import MAX_PLACES, Web

# How many places a walk has at most; how many each walk, and how many layers, a paper has.
_LONGEST_WALK = 201
_LEAST_LENGTH = 2
_MOST_LENGTH = 9

# How many tuples of walks a paper has at most.
_MOST_PLACES = 64


def write_web(web):
    """Return the text of a web."""
    check_web(web)
    return "\n".join(web.lines)


def read_web(text):
    """Return the web with a text."""
    return Web.from_lines(_lines_of(text))


def write_walk(value):
    """Return the text of a walk."""
    if not _is_walk(value, 1, _LONGEST_WALK):
        raise InvalidWalk("the value is no tuple of 1 to 201 places")
    return _row(value)


def read_walk(text):
    """Return the walk with a text."""
    if not isinstance(text, str):
        raise ParseError(None)
    walk = _places_in(text)
    if walk is None or not _is_walk(walk, 1, _LONGEST_WALK):
        raise ParseError(None)
    return walk


def write_paper(paper):
    """Return the text of a lone paper."""
    if not isinstance(paper, tuple) or len(paper) < 2:
        raise InvalidPaper("the value is no paper")
    if paper[0] == "lone" and len(paper) == 2 and _is_table(paper[1]):
        return "\n".join(["lone"] + [_row(walk) for walks in paper[1] for walk in walks])
    if paper[0] == "two" and len(paper) == 3 and _are_walks(paper[1:]):
        return "\n".join(["two", _row(paper[1]), _row(paper[2])])
    if paper[0] == "none" and len(paper) == 4 and _is_walk(paper[1:3], 2, 2) and _are_layers(paper[3]):
        return "\n".join(["none " + _row(paper[1:3])] + [_row(layer) for layer in paper[3]])
    raise InvalidPaper("the value is no paper")


def read_paper(text):
    """Return the lone paper with a text."""
    lines = _lines_of(text)
    if lines[0] == "lone":
        return _read_lone(lines)
    if lines[0] == "two":
        return _read_two(lines)
    ends = _places_in(lines[0][5:])
    if lines[0][:5] != "none " or ends is None or len(ends) != 2:
        raise ParseError(0)
    return "none", ends[0], ends[1], _read_layers(lines)


def _lines_of(text):
    """Return the tuple of the lines of a text."""
    if not isinstance(text, str):
        raise ParseError(None)
    return tuple(text.split("\n"))


def _row(places):
    """Return the text of some places, or of none."""
    if len(places) == 0:
        return "nothing"
    return " ".join([str(place) for place in places])


def _places_in(text):
    """Return the tuple of the places that a text tells with single blanks, None if it tells none."""
    words = text.split(" ")
    if not all([is_number_word(word) for word in words]):
        return None
    places = tuple([int(word) for word in words])
    if max(places) >= MAX_PLACES:
        return None
    return places


def _is_walk(value, least, most):
    """Tell whether the value is a tuple of places, of at least and at most so many."""
    if not isinstance(value, tuple) or not least <= len(value) <= most:
        return False
    return all([is_within(place, 0, MAX_PLACES - 1) for place in value])


def _are_walks(values):
    """Tell whether all values are walks of a paper, of one length."""
    if not all([_is_walk(value, _LEAST_LENGTH, _MOST_LENGTH) for value in values]):
        return False
    return all([len(value) == len(values[0]) for value in values])


def _is_table(value):
    """Tell whether the value is a tuple of as many tuples of walks as each of them has."""
    if not isinstance(value, tuple) or not 1 <= len(value) <= _MOST_PLACES:
        return False
    if not all([isinstance(walks, tuple) and len(walks) == len(value) for walks in value]):
        return False
    return _are_walks([walk for walks in value for walk in walks])


def _are_layers(value):
    """Tell whether the value is a tuple of layers."""
    if not isinstance(value, tuple) or not _LEAST_LENGTH <= len(value) <= _MOST_LENGTH:
        return False
    return all([is_ascending(layer, MAX_PLACES) for layer in value])


def _read_lone(lines):
    """Return the paper of a table of walks."""
    walks = _read_walks(lines)
    many = isqrt(len(walks))
    if many * many != len(walks) or not 1 <= many <= _MOST_PLACES:
        raise ParseError(len(lines))
    return "lone", tuple([walks[at:at + many] for at in range(0, len(walks), many)])


def _read_two(lines):
    """Return the paper of two walks."""
    walks = _read_walks(lines)
    if len(walks) != 2:
        raise ParseError(len(lines))
    return "two", walks[0], walks[1]


def _read_walks(lines):
    """Return the tuple of the walks of all lines but the first one."""
    walks = []
    for index, line in enumerate(lines[1:]):
        walk = _places_in(line)
        if walk is None or not _are_walks(walks[:1] + [walk]):
            raise ParseError(index + 1)
        walks.append(walk)
    return tuple(walks)


def _read_layers(lines):
    """Return the tuple of the layers of all lines but the first one."""
    layers = []
    for index, line in enumerate(lines[1:]):
        layer = () if line == "nothing" else _places_in(line)
        if layer is None or not is_ascending(layer, MAX_PLACES) or index >= _MOST_LENGTH:
            raise ParseError(index + 1)
        layers.append(layer)
    if len(layers) < _LEAST_LENGTH:
        raise ParseError(len(lines))
    return tuple(layers)
