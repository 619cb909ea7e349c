"""A shell that does commands with a keeper."""

from onebetween.base.words import MAX_FIGURES, is_letter
from onebetween.errors import (
    InvalidNumber, InvalidOperation, InvalidTerm, NothingToUndo, NoWalk, ParseError, TooMany, UnknownName,
)
from onebetween.lone.closures import closure
from onebetween.lone.counts import count_closed, count_rings
from onebetween.lone.middles import between
from onebetween.lone.tours import lone_tours, lone_trees
from onebetween.lone.words import word_names
from onebetween.terms.forms import are_equal, are_equal_in_words, form_of
from onebetween.use.keeper import Keeper
from onebetween.webs.walks import count_walks

# What stands for all integers with too many digits, which Python may refuse to read: one of them.
_LONG = (10 ** 50) ** 4

# For each command the kinds of its words behind the first one.
_KINDS = {
    "show": (), "locks": (), "marks": (), "moves": (), "between": ("X", "Y"), "walks": ("X", "Y", "at", "N"),
    "closed": ("N",), "rings": ("N",), "trees": (), "tours": (), "closure": ("PLACES",), "words": (),
    "find": ("TERM",), "form": ("TERM",), "equal": ("TERM", "TERM"), "same": ("TERM", "TERM"),
    "lock": ("X", "Y"), "unlock": ("X", "Y"), "mark": ("L", "X"), "unmark": ("L",), "turn": (),
    "rename": ("PLACES",), "switch": ("X", "Y", "PLACES"), "undo": ("N",),
}


class Shell:
    """A shell that works on a twin of a keeper."""

    def __init__(self, keeper):
        if not isinstance(keeper, Keeper):
            raise InvalidOperation("the value is no keeper")
        self._inner = keeper.twin()

    def keeper(self):
        """Return a twin of the keeper as it is now."""
        return self._inner.twin()

    def __call__(self, command):
        if not isinstance(command, str):
            raise ParseError(None)
        words = command.split(" ")
        values = _values_in(words)
        if values is None:
            return "what"
        return _answer(self._inner, words[0], values)

    def __str__(self):
        return f"shell of {self._inner}"


def _values_in(words):
    """Return the list of the values that the words of a command tell, None if they are no command."""
    kinds = _KINDS.get(words[0])
    if kinds is None:
        return None
    told = words[1:]
    if kinds[-1:] == ("PLACES",):
        # All words from there on are one value.
        at = len(kinds) - 1
        told = told[:at] + [told[at:]]
    if len(told) != len(kinds):
        return None
    values = [_value_in(kind, word) for kind, word in zip(kinds, told)]
    if any([value is None for value in values]):
        return None
    return values


def _value_in(kind, word):
    """Return the value of a word of this kind, None if it is no such word."""
    if kind == "PLACES":
        return _places_in(word)
    if kind == "TERM":
        right = word != "" and all([sign == "*" or is_letter(sign) for sign in word])
    elif kind == "L":
        right = is_letter(word)
    elif kind == "at":
        right = word == "at"
    else:
        return _number_in(word)
    return word if right else None


def _number_in(word):
    """Return the integer of a word of figures, None if it is none."""
    if not word.isascii() or not word.isdigit() or (word[0] == "0" and word != "0"):
        return None
    if len(word) > MAX_FIGURES:
        return _LONG
    return int(word)


def _places_in(words):
    """Return the tuple of the integers of some words, None if they are none."""
    if words == ["none"]:
        return ()
    numbers = [_number_in(word) for word in words]
    if len(numbers) == 0 or any([number is None for number in numbers]):
        return None
    return tuple(numbers)


def _answer(keeper, name, values):
    """Return the answer to a command; one that raises an error changes nothing."""
    action = _ACTIONS[name]
    try:
        return action(keeper, values)
    except InvalidNumber:
        return "number"
    except InvalidTerm:
        return "term"
    except UnknownName:
        return "name"
    except InvalidOperation:
        return "operation"
    except TooMany:
        return "many"
    except NothingToUndo:
        return "nothing"
    except NoWalk as e:
        return "tie " + _row(e.ends)


def _row(numbers):
    """Return some numbers with single blanks, or `none`."""
    return " ".join([str(number) for number in numbers]) or "none"


def _rows(rows):
    """Return some rows of numbers with semicolons, or `none`."""
    return "; ".join([_row(row) for row in rows]) or "none"


def _yes_or_no(told):
    """Return the answer that tells whether something is so."""
    return "yes" if told else "no"


def _show(keeper, values):
    return "; ".join(keeper.web.lines)


def _locks(keeper, values):
    return _rows(keeper.locks)


def _marks(keeper, values):
    return "; ".join([f"{letter} {place}" for letter, place in keeper.marks.items()]) or "none"


def _moves(keeper, values):
    return _rows([(u, v) + places for u, v, places in keeper.moves()])


def _between(keeper, values):
    return str(between(keeper.web, values[0], values[1]))


def _walks(keeper, values):
    return str(count_walks(keeper.web, values[0], values[1], values[3]))


def _closed(keeper, values):
    return str(count_closed(keeper.web, 2, values[0]))


def _rings(keeper, values):
    return str(count_rings(keeper.web, 2, values[0]))


def _trees(keeper, values):
    return str(lone_trees(keeper.web))


def _tours(keeper, values):
    return str(lone_tours(keeper.web))


def _closure(keeper, values):
    return _row(closure(keeper.web, 2, tuple(sorted(set(values[0])))))


def _words(keeper, values):
    return _yes_or_no(word_names(keeper.web, 2) is not None)


def _find(keeper, values):
    return str(keeper.find(values[0]))


def _form(keeper, values):
    return form_of(values[0])


def _equal(keeper, values):
    return _yes_or_no(are_equal(values[0], values[1]))


def _same(keeper, values):
    return _yes_or_no(are_equal_in_words(values[0], values[1]))


def _lock(keeper, values):
    keeper.lock(values[0], values[1])
    return "ok"


def _unlock(keeper, values):
    keeper.unlock(values[0], values[1])
    return "ok"


def _mark(keeper, values):
    keeper.mark(values[0], values[1])
    return "ok"


def _unmark(keeper, values):
    keeper.unmark(values[0])
    return "ok"


def _turn(keeper, values):
    keeper.turn()
    return "ok"


def _rename(keeper, values):
    keeper.rename(values[0])
    return "ok"


def _switch(keeper, values):
    keeper.switch(values[0], values[1], values[2])
    return "ok"


def _undo(keeper, values):
    keeper.undo(many=values[0])
    return "ok"


# What each command does.
_ACTIONS = {
    "show": _show, "locks": _locks, "marks": _marks, "moves": _moves, "between": _between, "walks": _walks,
    "closed": _closed, "rings": _rings, "trees": _trees, "tours": _tours, "closure": _closure, "words": _words,
    "find": _find, "form": _form, "equal": _equal, "same": _same, "lock": _lock, "unlock": _unlock, "mark": _mark,
    "unmark": _unmark, "turn": _turn, "rename": _rename, "switch": _switch, "undo": _undo,
}
