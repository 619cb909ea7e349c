"""A keeper: stage 16."""

import random
import unittest

from onebetween.errors import InvalidNumber, InvalidOperation, InvalidTerm, InvalidWeb, NothingToUndo, NotLone, NoWalk, UnknownName
from onebetween.lone.papers import is_lone
from onebetween.lone.switches import each_switch, free_classes, switched, twins_of
from onebetween.terms.terms import value_of
from onebetween.use.keeper import Keeper
from onebetween.webs.making import product, word_web
from onebetween.webs.webs import Web
from tests.cases import Case
from tests.some_terms import drawn_term, left_comb
from tests.some_webs import BARE, DEEP, DOT, FULL, LOOP
from tests.test_terms import NO_TERMS
from tests.wrong_values import ANY_KIND, BENT, FOUR, LONG, NINE, NO_COUNTS, no_numbers, number_rule, same, web_rule, without

WORDS = word_web(3, 2)
FOURS = word_web(4, 2)
LETTERS = "abcdefghijklmnopqrstuvwxyz"


class Plain:
    """What a keeper keeps, as plain rows, locks and marks, with all states ahead."""

    def __init__(self, web):
        self.state = (web.rows, (), {})
        self.ahead = []

    def put(self, rows=None, locks=None, marks=None):
        self.ahead.append(self.state)
        old = self.state
        self.state = (old[0] if rows is None else rows, old[1] if locks is None else tuple(sorted(locks)), old[2] if marks is None else marks)

    def undo(self, many):
        for _ in range(many):
            self.state = self.ahead.pop()

    def copy(self):
        other = Plain(FOUR)
        other.state, other.ahead = self.state, list(self.ahead)
        return other


class KeeperCase(Case):
    def check(self, keeper, plain):
        """Compare all that a keeper tells with what plain values tell."""
        rows, locks, marks = plain.state
        self.assertSame(keeper.web.rows, rows)
        self.assertSame(keeper.locks, locks)
        self.assertSame(keeper.marks, {letter: marks[letter] for letter in sorted(marks)})
        self.assertSame(keeper.changes, len(plain.ahead))
        self.assertSame(len(keeper), len(locks))
        self.assertSame(str(keeper), f"keeper of {len(rows)} places, {len(locks)} locks, {len(marks)} marks")

    def kept(self, keeper):
        return keeper.web.rows, keeper.locks, keeper.marks, keeper.changes

    def refused(self, keeper, error, attribute, value, call, *values, **named):
        """Check an error, and that nothing is changed by the call."""
        ahead = self.kept(keeper)
        raised = self.assertRaisesJust(error, call, *values, **named)
        if attribute is not None:
            self.assertIs(getattr(raised, attribute), value)
        self.assertSame(self.kept(keeper), ahead)
        return raised


def turned(rows):
    return tuple(tuple(one for one in range(len(rows)) if place in rows[one]) for place in range(len(rows)))


def renamed(rows, names):
    found = {names[one]: tuple(sorted(names[other] for other in row)) for one, row in enumerate(rows)}
    return tuple(found[place] for place in range(len(rows)))


class History:
    """One long drawn history of a keeper, beside plain values."""

    def __init__(self, case, keeper, plain, draw):
        self.case, self.keeper, self.plain, self.draw = case, keeper, plain, draw

    def step(self):
        draw = self.draw
        draw.choice([self.switch, self.switch, self.rename, self.turn, self.lock, self.lock, self.unlock, self.mark, self.mark, self.unmark, self.undo,
                     self.twin, self.trial, self.find, self.moves])()
        self.case.check(self.keeper, self.plain)

    def switch(self):
        rows, locks, _ = self.plain.state
        backward = self.draw.random() < 0.5
        read = Web(turned(rows) if backward else rows)
        twins = twins_of(read)
        if not twins:
            return
        u, v = self.draw.choice(twins)[::self.draw.choice((1, -1))]
        chosen = [group for group in free_classes(read, u, v) if self.draw.random() < 0.5]
        mine = {place for group, _ in chosen for place in group}
        theirs = {place for _, group in chosen for place in group}
        made = [set(row) for row in read.rows]
        made[u] = made[u] - mine | theirs
        made[v] = made[v] - theirs | mine
        made = tuple(tuple(sorted(row)) for row in made)
        made = turned(made) if backward else made
        gone = [tie for tie in locks if tie[1] not in made[tie[0]]]
        given = (u, v, tuple(sorted(mine)))
        if gone:
            error = self.case.refused(self.keeper, NoWalk, None, None, self.keeper.switch, *given, backward=backward)
            self.case.assertSame(error.ends, min(gone))
        else:
            self.case.assertIs(self.keeper.switch(*given, backward=backward), None)
            self.plain.put(rows=made)

    def rename(self):
        rows, locks, marks = self.plain.state
        names = list(range(len(rows)))
        self.draw.shuffle(names)
        self.case.assertIs(self.keeper.rename(tuple(names)), None)
        locks = [(names[one], names[other]) for one, other in locks]
        self.plain.put(renamed(rows, names), locks, {letter: names[place] for letter, place in marks.items()})

    def turn(self):
        rows, locks, _ = self.plain.state
        self.case.assertIs(self.keeper.turn(), None)
        self.plain.put(turned(rows), [(other, one) for one, other in locks])

    def lock(self):
        rows, locks, _ = self.plain.state
        one, other = self.draw.randrange(len(rows)), self.draw.randrange(len(rows))
        if other not in rows[one]:
            error = self.case.refused(self.keeper, NoWalk, None, None, self.keeper.lock, one, other)
            self.case.assertSame(error.ends, (one, other))
        elif (one, other) in locks:
            self.case.refused(self.keeper, InvalidOperation, None, None, self.keeper.lock, one, other)
        else:
            self.case.assertIs(self.keeper.lock(one, other), None)
            self.plain.put(locks=locks + ((one, other),))

    def unlock(self):
        rows, locks, _ = self.plain.state
        one, other = self.draw.choice(locks) if locks and self.draw.random() < 0.7 else (self.draw.randrange(len(rows)), self.draw.randrange(len(rows)))
        if (one, other) not in locks:
            self.case.refused(self.keeper, InvalidOperation, None, None, self.keeper.unlock, one, other)
        else:
            self.case.assertIs(self.keeper.unlock(one, other), None)
            self.plain.put(locks=[tie for tie in locks if tie != (one, other)])

    def mark(self):
        letter, place = self.draw.choice("abcde"), self.draw.randrange(len(self.plain.state[0]))
        self.case.assertIs(self.keeper.mark(letter, place), None)
        self.plain.put(marks={**self.plain.state[2], letter: place})

    def unmark(self):
        letter, marks = self.draw.choice("abcde"), self.plain.state[2]
        if letter not in marks:
            self.case.refused(self.keeper, UnknownName, "word", letter, self.keeper.unmark, letter)
        else:
            self.case.assertIs(self.keeper.unmark(letter), None)
            self.plain.put(marks={other: place for other, place in marks.items() if other != letter})

    def undo(self):
        many = self.draw.randrange(6)
        if many > len(self.plain.ahead):
            self.case.refused(self.keeper, NothingToUndo, "many", many, self.keeper.undo, many=many)
        else:
            self.case.assertIs(self.keeper.undo(many=many), None)
            self.plain.undo(many)

    def twin(self):
        other, copied = self.keeper.twin(), self.plain.copy()
        self.case.assertIs(other.__class__, Keeper)
        self.case.assertTrue(other == self.keeper)
        self.case.check(other, copied)
        history = History(self.case, other, copied, self.draw)
        for _ in range(3):
            history.draw.choice([history.switch, history.turn, history.lock, history.mark, history.undo, history.rename])()
        self.case.check(other, copied)
        if self.draw.random() < 0.5:
            # What was kept ahead stays as it was, and the twin goes on.
            self.case.check(self.keeper, self.plain)
            self.keeper, self.plain = other, copied

    def trial(self):
        inner = History(self.case, self.keeper, self.plain.copy(), self.draw)
        steps = [inner.switch, inner.turn, inner.lock, inner.mark, inner.undo, inner.rename, inner.unmark, inner.unlock]

        def go_on(keeper):
            self.case.assertIs(keeper, self.keeper)
            for _ in range(4):
                self.draw.choice(steps)()
            self.case.check(keeper, inner.plain)
            return steps

        if self.draw.random() < 0.5:
            with self.keeper.trial() as same_keeper:
                go_on(same_keeper)
        else:
            self.case.assertIs(self.keeper.during(go_on), steps)

    def find(self):
        rows, _, marks = self.plain.state
        term = drawn_term(self.draw, "abcde", self.draw.randrange(1, 7))
        unknown = [sign for sign in term if sign != "*" and sign not in marks]
        if unknown:
            error = self.case.refused(self.keeper, UnknownName, None, None, self.keeper.find, term)
            self.case.assertSame(error.word, unknown[0])
        else:
            self.case.assertSame(self.keeper.find(term), value_of(Web(rows), term, marks))

    def moves(self):
        rows, locks, _ = self.plain.state
        for backward in (False, True):
            wanted = []
            for move in each_switch(Web(rows), backward=backward):
                made = switched(Web(rows), *move, backward=backward)
                if all(tie in made for tie in locks):
                    wanted.append(move)
            self.case.assertSame(self.keeper.moves(backward=backward), tuple(wanted))


class Histories(KeeperCase):
    def test_long_histories(self):
        for seed, web in enumerate((FOUR, NINE, WORDS, FOURS, LOOP, product(FOUR, FOUR), NINE.turned())):
            draw = random.Random(seed)
            history = History(self, Keeper(web), Plain(web), draw)
            self.check(history.keeper, history.plain)
            for _ in range(250):
                history.step()
            self.assertIs(is_lone(history.keeper.web, 2), True)
            many = history.keeper.changes
            history.keeper.undo(many=many)
            history.plain.undo(many)
            self.check(history.keeper, history.plain)
            self.assertTrue(history.keeper == Keeper(web))


class Changes(KeeperCase):
    def test_calls_that_leave_all_equal_are_changes(self):
        keeper = Keeper(WORDS)
        keeper.mark("a", 3)
        for number, call in enumerate((lambda: keeper.mark("a", 3), lambda: keeper.switch(1, 2, ()), lambda: keeper.rename(tuple(range(9))))):
            self.assertIs(call(), None)
            self.assertSame(keeper.changes, number + 2)
            self.assertSame((keeper.web.rows, keeper.marks), (WORDS.rows, {"a": 3}))
        keeper = Keeper(LOOP)
        keeper.turn()
        self.assertSame([keeper.changes, keeper.undo(), keeper.changes], [1, None, 0])

    def test_undo(self):
        keeper = Keeper(FOUR)
        self.refused(keeper, NothingToUndo, "many", 1, keeper.undo, many=1)
        self.assertSame(self.assertRaisesJust(NothingToUndo, keeper.undo).many, 1)
        self.assertIs(keeper.undo(many=0), None)
        for letter in LETTERS:
            keeper.mark(letter, 1)
        self.assertSame(keeper.changes, 26)
        for many in (27, 28, 10 ** 199, LONG - 1):
            self.refused(keeper, NothingToUndo, "many", many, keeper.undo, many=many)
        for value in NO_COUNTS:
            self.refused(keeper, InvalidNumber, "value", value, keeper.undo, many=value)
        self.assertIs(keeper.undo(), None)
        self.assertIs(keeper.undo(many=20), None)
        self.assertSame([keeper.marks, keeper.changes], [dict.fromkeys("abcde", 1), 5])
        # An undo is no change itself, and cannot be taken back.
        keeper.undo(many=5)
        self.refused(keeper, NothingToUndo, "many", 1, keeper.undo, many=1)

    def test_very_many_changes(self):
        keeper = Keeper(LOOP)
        for _ in range(30000):
            keeper.mark("a", 0)
        other = keeper.twin()
        other.undo(many=29999)
        self.assertSame([keeper.changes, other.changes], [30000, 1])
        keeper.undo(many=30000)
        self.assertSame([keeper.changes, keeper.marks, other.marks], [0, {}, {"a": 0}])

    def test_a_switch_that_loses_locks(self):
        keeper = Keeper(WORDS)
        for tie in ((2, 7), (1, 4), (1, 3), (0, 0)):
            keeper.lock(*tie)
        self.assertSame(keeper.locks, ((0, 0), (1, 3), (1, 4), (2, 7)))
        for places, tie in (((3,), (1, 3)), ((4,), (1, 4)), ((3, 4), (1, 3)), ((4, 5), (1, 4)), ((3, 4, 5), (1, 3))):
            self.assertSame(self.refused(keeper, NoWalk, None, None, keeper.switch, 1, 2, places).ends, tie)
        # What `switched` refuses comes first.
        self.refused(keeper, InvalidOperation, None, None, keeper.switch, 1, 2, (3, 6))
        self.assertIs(keeper.switch(1, 2, (5,)), None)
        self.assertSame([move for move in keeper.moves() if move[:2] == (1, 2)], [(1, 2, (8,))])
        # Read backwards, the ties go the other way round.
        keeper = Keeper(WORDS.turned())
        keeper.lock(3, 1)
        self.assertSame(self.refused(keeper, NoWalk, None, None, keeper.switch, 1, 2, (3,), backward=True).ends, (3, 1))
        self.assertNotIn((1, 2, (3,)), keeper.moves(backward=True))
        self.assertIn((1, 2, (4,)), keeper.moves(backward=True))

    def test_marks_and_locks_go_along(self):
        keeper = Keeper(FOUR)
        keeper.lock(0, 1)
        keeper.mark("z", 0)
        keeper.mark("b", 2)
        keeper.turn()
        self.assertSame([keeper.locks, keeper.marks, keeper.web.rows], [((1, 0),), {"b": 2, "z": 0}, FOUR.turned().rows])
        keeper.rename((3, 1, 0, 2))
        self.assertSame([keeper.locks, keeper.marks], [((1, 3),), {"b": 0, "z": 3}])
        self.assertTrue(keeper.web == FOUR.turned().renamed((3, 1, 0, 2)))

    def test_what_is_returned_is_no_state(self):
        keeper = Keeper(FOUR)
        keeper.mark("a", 1)
        marks = keeper.marks
        marks["a"] = 3
        marks["b"] = 2
        del marks["a"]
        self.assertSame(keeper.marks, {"a": 1})
        self.assertIsNot(keeper.marks, keeper.marks)
        self.assertSame(keeper.find("a"), 1)
        with self.assertRaises(AttributeError):
            keeper.web = NINE


class Looked(KeeperCase):
    def test_contains(self):
        keeper = Keeper(FOUR)
        for value in ANY_KIND + ((0, 1), ("a",), "ab", (0, 1, 2), keeper):
            self.assertIs(value in keeper, False)
        keeper.lock(0, 1)
        keeper.lock(3, 3)
        keeper.mark("a", 1)
        keeper.mark("z", 0)
        for value in ANY_KIND + ((0, True), (False, 1), (False, True), (1, 0), [0, 1], (0, 1, 0), ("0", "1"), (0, LONG), "az", "", ("a",), (3, 2), keeper):
            wanted = any(same(value, other) for other in ("a", "z", (0, 1), (3, 3)))
            self.assertIs(value in keeper, wanted)
        self.assertTrue((0, 1) in keeper and (3, 3) in keeper and "a" in keeper and "z" in keeper)

    def test_equal(self):
        keeper = Keeper(FOUR)
        for value in ANY_KIND + (Keeper, None):
            self.assertIs(keeper == value, False)
            self.assertIs(keeper != value, True)
        other = Keeper(Web(FOUR.rows))
        self.assertIs(keeper == other, True)
        # The changes that can be taken back play no part.
        other.mark("a", 1)
        self.assertIs(keeper == other, False)
        keeper.mark("a", 2)
        self.assertIs(keeper == other, False)
        keeper.mark("a", 1)
        self.assertIs(keeper == other, True)
        self.assertIs(keeper != other, False)
        keeper.lock(0, 0)
        self.assertIs(keeper == other, False)
        other.lock(0, 0)
        other.turn()
        self.assertIs(keeper == other, False)
        self.assertIs(Keeper(NINE) == Keeper(WORDS), False)

    def test_not_iterated(self):
        keeper = Keeper(FOUR)
        keeper.lock(0, 1)
        self.assertRaises(TypeError, iter, keeper)
        self.assertRaises(TypeError, list, keeper)
        with self.assertRaises(TypeError):
            keeper[0]
        self.assertIs(bool(Keeper(FOUR)), False)

    def test_find(self):
        keeper = Keeper(NINE)
        for letter in "abc":
            keeper.mark(letter, "cab".index(letter) * 4)
        draw = random.Random(3)
        for size in (1, 2, 10, 200):
            for _ in range(10):
                term = drawn_term(draw, "abc", size)
                self.assertSame(keeper.find(term), value_of(NINE, term, keeper.marks))
        for value in NO_TERMS:
            self.refused(keeper, InvalidTerm, None, None, keeper.find, value)
        for term, letter in (("*xy", "x"), ("*ay", "y"), ("**az*xb", "z"), ("d", "d"), (left_comb("abx", 200), "x")):
            self.assertSame(self.refused(keeper, UnknownName, None, None, keeper.find, term).word, letter)

    def test_moves(self):
        for web in (FOUR, NINE, WORDS, FOURS, LOOP, word_web(16, 2)):
            for backward in (False, True):
                self.assertSame(Keeper(web).moves(backward=backward), tuple(each_switch(web, backward=backward)))
            self.assertSame(Keeper(web).moves(), tuple(each_switch(web)))
        keeper = Keeper(WORDS)
        for value in without(ANY_KIND, True, False):
            self.refused(keeper, InvalidOperation, None, None, keeper.moves, backward=value)


class Blocks(KeeperCase):
    def test_trial(self):
        keeper = Keeper(FOUR)
        keeper.mark("a", 1)
        trial = keeper.trial()
        # The block is entered later than the trial is made.
        keeper.mark("b", 2)
        with trial as inner:
            self.assertIs(inner, keeper)
            keeper.undo(many=2)
            keeper.turn()
            self.assertSame([keeper.marks, keeper.changes], [{}, 1])
        self.assertSame([keeper.marks, keeper.changes, keeper.web.rows], [{"a": 1, "b": 2}, 2, FOUR.rows])
        # Entered once more: what was last.
        keeper.lock(0, 0)
        with trial:
            keeper.unlock(0, 0)
            keeper.unmark("a")
        self.assertSame([keeper.marks, keeper.locks, keeper.changes], [{"a": 1, "b": 2}, ((0, 0),), 3])

    def test_errors_go_on(self):
        keeper = Keeper(FOUR)
        error = ValueError("told")
        for kind in (0, 1):
            with self.assertRaises(ValueError) as caught:
                if kind:
                    with keeper.trial():
                        keeper.mark("a", 1)
                        raise error
                else:
                    keeper.during(lambda same_keeper: self.raised(same_keeper, error))
            self.assertIs(caught.exception, error)
            self.assertSame([keeper.marks, keeper.changes], [{}, 0])
        with self.assertRaises(NoWalk):
            with keeper.trial():
                keeper.turn()
                keeper.lock(0, 1)
        self.assertSame([keeper.web.rows, keeper.changes], [FOUR.rows, 0])

    def raised(self, keeper, error):
        keeper.mark("a", 2)
        raise error

    def test_blocks_within_blocks(self):
        keeper = Keeper(FOUR)
        trial = keeper.trial()
        with trial:
            keeper.mark("a", 1)
            with trial:
                keeper.mark("b", 2)
                with keeper.trial():
                    keeper.undo(many=2)
                    self.assertSame(keeper.during(lambda some: [some.turn(), some.changes]), [None, 1])
                    self.assertSame(keeper.changes, 0)
                self.assertSame(keeper.marks, {"a": 1, "b": 2})
            self.assertSame([keeper.marks, keeper.changes], [{"a": 1}, 1])
        self.assertSame([keeper.marks, keeper.changes], [{}, 0])

    def test_during(self):
        keeper = Keeper(FOUR)
        result = []
        self.assertIs(keeper.during(lambda some: result), result)
        self.assertIs(keeper.during(lambda some: some), keeper)
        self.assertIs(keeper.during(lambda some: None), None)
        twin = keeper.during(lambda some: [some.mark("a", 3), some.twin()][1])
        self.assertSame([twin.marks, twin.changes, keeper.marks, keeper.changes], [{"a": 3}, 1, {}, 0])

    def test_twin_in_a_block(self):
        keeper = Keeper(FOUR)
        with keeper.trial():
            keeper.mark("a", 1)
            twin = keeper.twin()
            with twin.trial():
                twin.undo()
                keeper.mark("b", 1)
            self.assertSame([twin.marks, keeper.marks], [{"a": 1}, {"a": 1, "b": 1}])
        self.assertSame([twin.marks, twin.changes, keeper.marks], [{"a": 1}, 1, {}])


class Wrong(KeeperCase):
    def test_webs(self):
        self.assertRefusals(Keeper, (FOUR,), web_rule())
        for web in (BENT, BARE, DOT, DEEP, FULL, word_web(2, 8)):
            self.assertRefused(NotLone, "reason", 2, Keeper, web)
        self.assertSame(str(Keeper(LOOP)), "keeper of 1 places, 0 locks, 0 marks")
        self.assertRaisesJust(InvalidWeb, Keeper, Keeper(FOUR))

    def test_switch(self):
        keeper = Keeper(WORDS)
        keeper.lock(1, 3)
        backward = ("backward", without(ANY_KIND, True, False), InvalidOperation, None)
        places = (2, ((4, 3), (1,), [4], (6,), None), InvalidOperation, None)
        self.assertRefusals(keeper.switch, (1, 2, ()), number_rule(0, 0, 8), number_rule(1, 0, 8), backward, backward=False)
        self.assertRefusals(keeper.switch, (1, 2, ()), number_rule(0, 0, 8), number_rule(1, 0, 8), places)
        self.assertSame(keeper.changes, 1)
        for u, v in ((1, 3), (1, 1), (0, 5)):
            self.refused(keeper, InvalidOperation, None, None, keeper.switch, u, v, ())

    def test_others(self):
        keeper = Keeper(FOUR)
        places = number_rule(0, 0, 3), number_rule(1, 0, 3)
        self.assertRefusals(keeper.lock, (0, 1), *places)
        keeper = Keeper(FOUR)
        for value in no_numbers(0, 3):
            for call in (keeper.lock, keeper.unlock):
                self.refused(keeper, InvalidNumber, "value", value, call, value, 9)
                self.refused(keeper, InvalidNumber, "value", value, call, 0, value)
            self.refused(keeper, InvalidNumber, "value", value, keeper.mark, "a", value)
        for value in without(ANY_KIND, "a", "z") + ("ab", "A", "*", " a"):
            self.refused(keeper, InvalidOperation, None, None, keeper.mark, value, 9)
            self.refused(keeper, InvalidOperation, None, None, keeper.mark, value, 1)
            self.refused(keeper, UnknownName, "word", value, keeper.unmark, value)
        self.refused(keeper, UnknownName, "word", "a", keeper.unmark, "a")
        for value in ANY_KIND + ((0, 1, 2), (0, 1, 2, 2), (0, 1, 2, 4), [0, 1, 2, 3], (0, True, 2, 3), (0, 1, 2, LONG), (0, 1, 2, "3")):
            self.refused(keeper, InvalidOperation, None, None, keeper.rename, value)
        self.assertSame(self.refused(keeper, NoWalk, None, None, keeper.lock, 0, 2).ends, (0, 2))
        self.refused(keeper, InvalidOperation, None, None, keeper.unlock, 0, 1)
        self.refused(keeper, InvalidOperation, None, None, keeper.unlock, 0, 2)
        keeper.lock(0, 1)
        self.refused(keeper, InvalidOperation, None, None, keeper.lock, 0, 1)


if __name__ == "__main__":
    unittest.main()
