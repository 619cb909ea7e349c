"""The errors that the package raises."""


class WebError(ValueError):
    """A value has not the form that it has to have."""


class InvalidWeb(WebError):
    """A value is no web."""


class InvalidWalk(WebError):
    """A value is no walk."""


class InvalidTerm(WebError):
    """A value is no term."""


class InvalidPaper(WebError):
    """A value is no paper."""


class InvalidOperation(WebError):
    """Something cannot be done with these values."""


class ParseError(WebError):
    """A text cannot be read; `line` is the index of the line, or None."""

    def __init__(self, line):
        self.line = line


class UnknownName(KeyError):
    """Nothing has the name `word`."""

    def __init__(self, word):
        self.word = word


class NoWalk(LookupError):
    """There is no walk between the places `ends`."""

    def __init__(self, ends):
        self.ends = ends


class InvalidNumber(IndexError):
    """`value` is no number of the kind that is asked for."""

    def __init__(self, value):
        self.value = value


class NothingToUndo(RuntimeError):
    """There are fewer changes than `many` to take back."""

    def __init__(self, many):
        self.many = many


class TooMany(OverflowError):
    """There is more of something than `limit`."""

    def __init__(self, limit):
        self.limit = limit


class NotLone(ArithmeticError):
    """A web is not lone; `reason` is the depth it was asked for, or None."""

    def __init__(self, reason):
        self.reason = reason
