"""Webs: places, and the one-way ties between them."""

from onebetween.base.masks import lone_depth_of
from onebetween.base.words import is_arrangement, is_ascending, is_number_word, is_within
from onebetween.errors import InvalidNumber, InvalidOperation, InvalidWeb, ParseError

MAX_PLACES = 256


class Web:
    """A web with these rows; it never changes."""

    def __init__(self, rows):
        if not _are_rows(rows):
            raise InvalidWeb("a web is a tuple of 1 to 256 ascending tuples of its places")
        self._rows = rows
        self._lone_depth = None

    @classmethod
    def from_lines(cls, lines):
        """Return the web with the lines of a tuple, one for each place, in any order."""
        return cls(_rows_of_lines(lines))

    @property
    def rows(self):
        """The tuple of the rows."""
        return self._rows

    @property
    def columns(self):
        """For each place the places that are tied to it."""
        found = [[] for place in self._rows]
        for one, row in enumerate(self._rows):
            for other in row:
                found[other].append(one)
        return tuple([tuple(column) for column in found])

    @property
    def ties(self):
        """The ascending tuple of the ties."""
        return tuple([(one, other) for one, row in enumerate(self._rows) for other in row])

    @property
    def loops(self):
        """The ascending tuple of the places that are tied to themselves."""
        return tuple([place for place, row in enumerate(self._rows) if place in row])

    @property
    def lines(self):
        """The tuple of the lines, in the order of the places."""
        return tuple([_line_of(place, row) for place, row in enumerate(self._rows)])

    @property
    def degree(self):
        """The number of places of each row and of each column, None if these differ."""
        sizes = [len(row) for row in self._rows + self.columns]
        if min(sizes) == max(sizes):
            return sizes[0]
        return None

    @property
    def lone_depth(self):
        """The least depth of which the web is lone, 0 if there is none."""
        # Most functions about lone webs ask for it, so it is worked out but once.
        if self._lone_depth is None:
            self._lone_depth = lone_depth_of(self._rows)
        return self._lone_depth

    def turned(self):
        """Return the web with each tie the other way round."""
        return Web(self.columns)

    def renamed(self, names):
        """Return the web in which each place x is the place names[x]."""
        if not is_arrangement(names, len(self._rows)):
            raise InvalidOperation("the names are no tuple with each place once")
        rows = {}
        for place, row in enumerate(self._rows):
            rows[names[place]] = tuple(sorted([names[other] for other in row]))
        return Web(tuple([rows[place] for place in range(len(rows))]))

    def with_tie(self, one, other):
        """Return the web with one tie more."""
        self._check_place(one)
        self._check_place(other)
        row = self._rows[one]
        if other in row:
            raise InvalidOperation("there is this tie")
        return self.with_row(one, tuple(sorted(row + (other,))))

    def without_tie(self, one, other):
        """Return the web with one tie less."""
        self._check_place(one)
        self._check_place(other)
        row = self._rows[one]
        if other not in row:
            raise InvalidOperation("there is no such tie")
        return self.with_row(one, tuple([place for place in row if place != other]))

    def with_row(self, place, row):
        """Return the web with another row of a place."""
        self._check_place(place)
        if not is_ascending(row, len(self._rows)):
            raise InvalidOperation("the row is no ascending tuple of places")
        return Web(self._rows[:place] + (row,) + self._rows[place + 1:])

    def part(self, places):
        """Return the web of the ties between some places, numbered from 0 on."""
        if not is_ascending(places, len(self._rows)) or len(places) == 0:
            raise InvalidOperation("the part is no ascending tuple of at least one place")
        numbers = {place: index for index, place in enumerate(places)}
        rows = []
        for place in places:
            rows.append(tuple([numbers[other] for other in self._rows[place] if other in numbers]))
        return Web(tuple(rows))

    def __getitem__(self, place):
        self._check_place(place)
        return self._rows[place]

    def __contains__(self, value):
        if not isinstance(value, tuple) or len(value) != 2:
            return False
        one, other = value
        # True equals 1 for Python, so both are judged before they are looked up.
        return self._is_place(one) and self._is_place(other) and other in self._rows[one]

    def __len__(self):
        return len(self._rows)

    def __iter__(self):
        return iter(self._rows)

    def __eq__(self, value):
        return isinstance(value, Web) and self._rows == value._rows

    def __str__(self):
        return f"web of {len(self._rows)} places, {len(self.ties)} ties"

    def _is_place(self, value):
        return is_within(value, 0, len(self._rows) - 1)

    def _check_place(self, place):
        if not self._is_place(place):
            raise InvalidNumber(place)


def _are_rows(rows):
    """Tell whether these are the rows of a web."""
    if not isinstance(rows, tuple) or not 1 <= len(rows) <= MAX_PLACES:
        return False
    return all([is_ascending(row, len(rows)) for row in rows])


def _line_of(place, row):
    """Return the line of a place and its row."""
    if len(row) == 0:
        return f"{place} to nothing"
    names = " ".join([str(other) for other in row])
    return f"{place} to {names}"


def _rows_of_lines(lines):
    """Return the rows that the lines of a tuple tell, in the order of the places."""
    if not isinstance(lines, tuple):
        raise ParseError(None)
    rows = {}
    for index, line in enumerate(lines):
        told = _read_line(line)
        if told is None or told[0] in rows:
            raise ParseError(index)
        rows[told[0]] = told[1]
    if sorted(rows) != list(range(len(rows))):
        raise InvalidWeb("the places of the lines are not those from 0 on")
    return tuple([rows[place] for place in range(len(rows))])


def _read_line(line):
    """Return the pair of the place and the row of a line, None if it is no line."""
    if not isinstance(line, str):
        return None
    words = line.split(" ")
    if len(words) < 3 or not is_number_word(words[0]) or words[1] != "to":
        return None
    if words[2:] == ["nothing"]:
        return int(words[0]), ()
    if not all([is_number_word(word) for word in words[2:]]):
        return None
    row = [int(word) for word in words[2:]]
    # Whether the places of the row exist is asked only when all lines are read.
    if not all([low < high for low, high in zip(row, row[1:])]):
        return None
    return int(words[0]), tuple(row)
