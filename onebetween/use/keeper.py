"""A keeper of a web that is lone of depth 2, with locked ties and marked places, whose changes can be taken back."""

from onebetween.base.words import is_count, is_integer, is_letter
from onebetween.errors import InvalidNumber, InvalidOperation, NothingToUndo, NoWalk, UnknownName
from onebetween.lone.switches import switched
from onebetween.lone.twins import free_moves
from onebetween.terms.terms import check_term, value_in
from onebetween.webs.checks import check_lone, check_place, check_web


class State:
    """What a keeper keeps at one time: it never changes, so that keepers and trials can share it."""

    def __init__(self, kept_web, kept_locks, kept_marks, ahead):
        self.kept_web = kept_web
        self.kept_locks = kept_locks
        self.kept_marks = kept_marks
        # The state ahead of the last change, None if there is no change to take back.
        self.ahead = ahead
        self.depth = 0 if ahead is None else ahead.depth + 1


class Saved:
    """The state at the beginning of a block, and what is saved for the blocks around it."""

    def __init__(self, now, outer):
        self.now = now
        self.outer = outer


class Trial:
    """What `with` takes for a block at whose end a keeper is as it was when the block was entered."""

    def __init__(self, owner):
        self.owner = owner
        self.saved = None

    def __enter__(self):
        owner = self.owner
        self.saved = Saved(owner._now, self.saved)
        return owner

    def __exit__(self, kind, value, trace):
        owner = self.owner
        owner._now = self.saved.now
        self.saved = self.saved.outer


class Keeper:
    """A keeper of a web, at first without locks and marks."""

    def __init__(self, web):
        check_web(web)
        check_lone(web, 2)
        self._now = State(web, (), {}, None)

    @property
    def web(self):
        """The web."""
        return self._now.kept_web

    @property
    def locks(self):
        """The ascending tuple of the locked ties."""
        return self._now.kept_locks

    @property
    def marks(self):
        """The dict from the letters with a mark to their places."""
        return dict(self._now.kept_marks)

    @property
    def changes(self):
        """The number of changes that can be taken back."""
        return self._now.depth

    def switch(self, u, v, places, *, backward=False):
        """Switch free classes at twins, if all locks stay ties."""
        made = switched(self._now.kept_web, u, v, places, backward=backward)
        for tie in self._now.kept_locks:
            if tie not in made:
                raise NoWalk(tie)
        self._change(made, self._now.kept_locks, self._now.kept_marks)

    def rename(self, names):
        """Rename the places; marks and locks go with them."""
        made = self._now.kept_web.renamed(names)
        locks = sorted([(names[one], names[other]) for one, other in self._now.kept_locks])
        marks = {letter: names[place] for letter, place in self._now.kept_marks.items()}
        self._change(made, tuple(locks), marks)

    def turn(self):
        """Read the web backwards, and the locks."""
        locks = sorted([(other, one) for one, other in self._now.kept_locks])
        self._change(self._now.kept_web.turned(), tuple(locks), self._now.kept_marks)

    def lock(self, one, other):
        """Lock a tie."""
        self._check_places(one, other)
        tie = (one, other)
        if tie not in self._now.kept_web:
            raise NoWalk(tie)
        if tie in self._now.kept_locks:
            raise InvalidOperation("the tie is locked")
        locks = sorted(self._now.kept_locks + (tie,))
        self._change(self._now.kept_web, tuple(locks), self._now.kept_marks)

    def unlock(self, one, other):
        """Take the lock of a tie away."""
        self._check_places(one, other)
        tie = (one, other)
        if tie not in self._now.kept_locks:
            raise InvalidOperation("the tie is not locked")
        locks = [lock for lock in self._now.kept_locks if lock != tie]
        self._change(self._now.kept_web, tuple(locks), self._now.kept_marks)

    def mark(self, letter, place):
        """Let a letter stand for a place."""
        if not is_letter(letter):
            raise InvalidOperation("the value is no letter")
        check_place(self._now.kept_web, place)
        marks = dict(self._now.kept_marks)
        marks[letter] = place
        self._change(self._now.kept_web, self._now.kept_locks, {name: marks[name] for name in sorted(marks)})

    def unmark(self, letter):
        """Take the mark of a letter away."""
        if not is_letter(letter) or letter not in self._now.kept_marks:
            raise UnknownName(letter)
        marks = {name: place for name, place in self._now.kept_marks.items() if name != letter}
        self._change(self._now.kept_web, self._now.kept_locks, marks)

    def find(self, term):
        """Return the place that a term stands for, by the marks of its letters."""
        check_term(term)
        for sign in term:
            if sign != "*" and sign not in self._now.kept_marks:
                raise UnknownName(sign)
        return value_in(self._now.kept_web, term, self._now.kept_marks)

    def moves(self, *, backward=False):
        """Return the ascending tuple of the moves that switch a single free class and can be done now."""
        if not isinstance(backward, bool):
            raise InvalidOperation("backward is neither True nor False")
        read = self._now.kept_web.turned() if backward else self._now.kept_web
        locked = {(other, one) if backward else (one, other): True for one, other in self._now.kept_locks}
        found = []
        for u, v, mine, theirs in free_moves(read):
            # These ties, and no other ones, would go.
            going = [(u, place) for place in mine] + [(v, place) for place in theirs]
            if not any([tie in locked for tie in going]):
                found.append((u, v, mine))
        return tuple(found)

    def undo(self, *, many=1):
        """Take back the last changes, so many."""
        if not is_count(many):
            raise InvalidNumber(many)
        if many > self._now.depth:
            raise NothingToUndo(many)
        state = self._now
        for _ in range(many):
            state = state.ahead
        self._now = state

    def twin(self):
        """Return an independent copy, with the changes to take back."""
        other = Keeper(self._now.kept_web)
        other._now = self._now
        return other

    def trial(self):
        """Return what gives the keeper to a `with` block, behind which all is as it was ahead."""
        return Trial(self)

    def during(self, call):
        """Return what a call with the keeper returns, behind which all is as it was ahead."""
        saved = self._now
        try:
            return call(self)
        finally:
            self._now = saved

    def __contains__(self, value):
        if is_letter(value):
            return value in self._now.kept_marks
        if not isinstance(value, tuple) or len(value) != 2:
            return False
        # True equals 1 for Python, so both are judged before they are looked up.
        return is_integer(value[0]) and is_integer(value[1]) and value in self._now.kept_locks

    def __len__(self):
        return len(self._now.kept_locks)

    def __eq__(self, value):
        if not isinstance(value, Keeper) or self._now.kept_web != value._now.kept_web:
            return False
        return self._now.kept_locks == value._now.kept_locks and self._now.kept_marks == value._now.kept_marks

    def __str__(self):
        return f"keeper of {len(self._now.kept_web)} places, {len(self)} locks, {len(self._now.kept_marks)} marks"

    def _check_places(self, one, other):
        check_place(self._now.kept_web, one)
        check_place(self._now.kept_web, other)

    def _change(self, web, locks, marks):
        """Put down a change."""
        self._now = State(web, locks, marks, self._now)
