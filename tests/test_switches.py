"""Switches: stage 10."""

import itertools
import unittest

from onebetween.errors import InvalidNumber, InvalidOperation, InvalidWeb, NotLone
from onebetween.lone.papers import is_lone
from onebetween.lone.switches import classes_at, each_switch, free_classes, is_switch, switched, switched_all, twins_of
from onebetween.webs.making import all_ties, line_web, product, word_web
from onebetween.webs.webs import Web
from tests.cases import Case
from tests.some_webs import BARE, DEEP, DOT, FULL, LOOP
from tests.wrong_values import ANY_KIND, BENT, FOUR, LONG, NINE, NO_WEBS, number_rule, same, web_rule, without

WORDS = word_web(3, 2)
SIXTEEN = product(FOUR, FOUR)
FOURS = word_web(4, 2)
BACKWARD = ("backward", without(ANY_KIND, True, False), InvalidOperation, None)


def first_switch(*given, **named):
    return next(each_switch(*given, **named), None)


def some_webs():
    webs = [FOUR, NINE, WORDS, NINE.turned(), SIXTEEN, FOURS, LOOP, FOUR.renamed((2, 0, 3, 1)), NINE.renamed((4, 0, 8, 2, 6, 1, 7, 3, 5))]
    # Webs behind some switches, forth and back.
    for number in (3, 11, 7, 5):
        webs.append(moved_by_force(webs[-1].turned() if number != 3 else FOURS, number))
    return webs


def moved_by_force(web, number):
    """Return the web behind one of the moves with single free classes."""
    moves = [(u, v, group) for u, v in twins_by_force(web) for group in free_by_force(web, u, v)]
    u, v, group = moves[number]
    return switch_by_force(web, u, v, [group])


def twins_by_force(web):
    tied = [[one for one in range(len(web)) if place in web.rows[one]] for place in range(len(web))]
    return [(u, v) for u, v in itertools.combinations(range(len(web)), 2) if tied[u] == tied[v]]


def classes_by_force(web, u, v):
    """Return the classes at two twins, as the least sets that have all mates of their places."""
    rows = [set(row) for row in web.rows]
    found = set()
    for start in web.rows[u] + web.rows[v]:
        group = {start}
        more = True
        while more:
            mates = {q for p in group for q in (rows[v] if p in rows[u] else rows[u]) if rows[p] & rows[q]}
            more = mates - group
            group |= mates
        found.add((tuple(sorted(group & rows[u])), tuple(sorted(group & rows[v]))))
    return sorted(found)


def free_by_force(web, u, v):
    return [group for group in classes_by_force(web, u, v) if u not in group[0] + group[1] and v not in group[0] + group[1]]


def switch_by_force(web, u, v, classes):
    rows = [set(row) for row in web.rows]
    for mine, theirs in classes:
        rows[u] = rows[u] - set(mine) | set(theirs)
        rows[v] = rows[v] - set(theirs) | set(mine)
    return Web(tuple(tuple(sorted(row)) for row in rows))


def parts_of(values):
    return [chosen for size in range(len(values) + 1) for chosen in itertools.combinations(values, size)]


def read(web, backward):
    return web.turned() if backward else web


class Classes(Case):
    def test_twins(self):
        for web in some_webs():
            for backward in (False, True):
                self.assertSame(twins_of(web, backward=backward), tuple(twins_by_force(read(web, backward))))
            self.assertSame(twins_of(web), tuple(twins_by_force(web)))

    def test_classes(self):
        for web in some_webs():
            for backward in (False, True):
                some = read(web, backward)
                for u, v in twins_by_force(some):
                    for one, other in ((u, v), (v, u)):
                        self.assertSame(classes_at(web, one, other, backward=backward), tuple(classes_by_force(some, one, other)))
                        self.assertSame(free_classes(web, one, other, backward=backward), tuple(free_by_force(some, one, other)))
                        for mine, theirs in classes_at(web, one, other, backward=backward):
                            self.assertEqual(len(mine), len(theirs))

    def test_without_twins(self):
        self.assertSame([twins_of(LOOP), twins_of(LOOP, backward=True), list(each_switch(LOOP)), is_switch(LOOP, LOOP)], [(), (), [], False])

    def test_great(self):
        web = product(word_web(4, 2), word_web(4, 2))
        self.assertEqual(len(twins_of(web)), 16 * 120)
        self.assertSame(twins_of(web), tuple(twins_by_force(web)))
        u, v = twins_of(web)[7]
        self.assertSame(classes_at(web, u, v), tuple(classes_by_force(web, u, v)))
        move = first_switch(web)
        self.assertIs(is_lone(switched(web, *move), 2), True)


class Switches(Case):
    def test_by_force(self):
        for web in some_webs():
            for backward in (False, True):
                some = read(web, backward)
                for u, v in twins_by_force(some):
                    for one, other in ((u, v), (v, u)):
                        for chosen in parts_of(free_by_force(some, one, other)):
                            places = tuple(sorted(place for mine, _ in chosen for place in mine))
                            found = switched(web, one, other, places, backward=backward)
                            self.assertIs(found.__class__, Web)
                            self.assertSame(found.rows, read(switch_by_force(some, one, other, chosen), backward).rows)
                            self.assertIs(is_lone(found, 2), True)
                            self.assertIs(is_switch(web, found, backward=backward), True)
                            self.assertIn((u, v), twins_of(found, backward=backward))
                            # The same switch leads back: theirs are now mine.
                            back = tuple(sorted(place for _, theirs in chosen for place in theirs))
                            self.assertTrue(switched(found, one, other, back, backward=backward) == web)

    def test_each_switch(self):
        for web in some_webs():
            for backward in (False, True):
                some = read(web, backward)
                wanted = sorted((u, v, mine) for u, v in twins_by_force(some) for mine, _ in free_by_force(some, u, v))
                self.assertSame(list(each_switch(web, backward=backward)), wanted)

    def test_which_places(self):
        for web, u, v in ((WORDS, 1, 2), (NINE, 1, 2), (FOURS, 1, 3), (SIXTEEN, 0, 5)):
            right = {tuple(sorted(place for mine, _ in chosen for place in mine)) for chosen in parts_of(free_by_force(web, u, v))}
            for size in range(len(web.rows[u]) + 2):
                for places in itertools.combinations(range(len(web)), size):
                    if places in right:
                        switched(web, u, v, places)
                    else:
                        self.assertRaisesJust(InvalidOperation, switched, web, u, v, places)
            for places in right:
                doubled = places + places if places else (0, 0)
                for wrong in (list(places), places[::-1] if len(places) > 1 else (0, 0), doubled, places + (len(web),), (True,) + places, (-1,)):
                    self.assertRaisesJust(InvalidOperation, switched, web, u, v, wrong)

    def test_a_part_of_a_class(self):
        # At these twins there is a free class with two places on each side.
        web, u, v = next((web, u, v) for web in some_webs() for u, v in twins_by_force(web) if any(len(mine) > 1 for mine, _ in free_by_force(web, u, v)))
        for mine, _ in free_by_force(web, u, v):
            if len(mine) > 1:
                for size in range(1, len(mine)):
                    for places in itertools.combinations(mine, size):
                        self.assertRaisesJust(InvalidOperation, switched, web, u, v, places)

    def test_is_switch_by_force(self):
        for web in (FOUR, NINE, WORDS, LOOP, FOURS):
            for backward in (False, True):
                some = read(web, backward)
                reached = set()
                for u, v in twins_by_force(some):
                    reached.update(read(switch_by_force(some, u, v, chosen), backward).rows for chosen in parts_of(free_by_force(some, u, v)))
                others = [FOUR, NINE, WORDS, LOOP, BENT, FULL, BARE, DOT, DEEP, FOURS, SIXTEEN, NINE.turned(), WORDS.turned(), all_ties(9), all_ties(4)]
                if len(web) < 16:
                    others.extend(web.renamed(names) for names in itertools.islice(itertools.permutations(range(len(web))), 200))
                    for one in range(len(web)):
                        others.extend(web.with_row(one, row) for row in itertools.combinations(range(len(web)), len(web.rows[0])))
                    others.extend(Web(rows) for rows in sorted(reached))
                    # Two rows exchanged, and two places of two rows exchanged.
                    for one, other in itertools.combinations(range(len(web)), 2):
                        others.append(web.with_row(one, web.rows[other]).with_row(other, web.rows[one]))
                        for x, y in itertools.product(web.rows[one], web.rows[other]):
                            if x not in web.rows[other] and y not in web.rows[one]:
                                moved = web.without_tie(one, x).with_tie(one, y).without_tie(other, y)
                                others.append(moved.with_tie(other, x))
                for other in others:
                    self.assertIs(is_switch(web, other, backward=backward), other.rows in reached)

    def test_moves_one_behind_the_other(self):
        self.assertTrue(switched_all(WORDS, ()) == WORDS)
        self.assertTrue(switched_all(WORDS, (), backward=True) == WORDS)
        for backward in (False, True):
            made = FOURS
            moves = []
            for number in range(9):
                u, v, places = list(each_switch(made, backward=backward))[number]
                moves.append((v, u, next(theirs for mine, theirs in free_classes(made, u, v, backward=backward) if mine == places)))
                made = switched(made, u, v, places, backward=backward)
                self.assertTrue(switched_all(FOURS, tuple(moves), backward=backward) == made)
        self.assertTrue(switched_all(WORDS, ((1, 2, (3,)), (2, 1, (3,)))) == WORDS)

    def test_results_share_nothing(self):
        rows = WORDS.rows
        switched(WORDS, 1, 2, (3,))
        self.assertEqual(WORDS.rows, rows)


class Wrong(Case):
    def test_arguments(self):
        for web in (WORDS, BENT):
            many = len(web) - 1
            twins = (number_rule(1, 0, many), number_rule(2, 0, many))
            self.assertRefusals(twins_of, (web,), web_rule(), BACKWARD, backward=False)
            self.assertRefusals(first_switch, (web,), web_rule(), BACKWARD, backward=False)
            for call in (classes_at, free_classes):
                self.assertRefusals(call, (web, 1, 2), web_rule(), *twins, BACKWARD, backward=False)
            self.assertRefusals(switched, (web, 1, 2, ()), web_rule(), *twins, BACKWARD, backward=False)
            other = (1, NO_WEBS, InvalidWeb, None)
            self.assertRefusals(is_switch, (web, WORDS), web_rule(), other, BACKWARD, backward=False)
            wrong = without(ANY_KIND, ()) + (((1, 2),), ((1, 2, (), False),), ([1, 2, ()],), ((1, 2, ()), None), ((1, 2, ()), ()), [(1, 2, ())], (1, 2, ()))
            self.assertRefusals(switched_all, (web, ()), web_rule(), (1, wrong, InvalidOperation, None), BACKWARD, backward=False)

    def test_backward_is_checked_ahead_of_not_lone(self):
        for web in (BENT, BARE, DOT, DEEP, FULL, line_web(NINE)):
            for call, more in ((twins_of, ()), (first_switch, ()), (switched_all, ((),)), (is_switch, (NINE,))):
                self.assertRefused(NotLone, "reason", 2, call, web, *more)
                self.assertRaisesJust(InvalidOperation, call, web, *more, backward=1)
            for call, more in ((classes_at, ()), (free_classes, ()), (switched, (None,)), (switched, ((),))):
                self.assertRefused(NotLone, "reason", 2, call, web, 0, 0, *more)
                self.assertRefused(NotLone, "reason", 2, call, web, 0, 0, *more, backward=True)
                self.assertRaisesJust(InvalidOperation, call, web, 0, 0, *more, backward=0)
                self.assertRaisesJust(InvalidNumber, call, web, 0, True, *more, backward=0)

    def test_no_twins(self):
        for web in (FOUR, NINE, WORDS):
            for backward in (False, True):
                twins = twins_by_force(read(web, backward))
                for u, v in itertools.product(range(len(web)), repeat=2):
                    if (u, v) not in twins and (v, u) not in twins:
                        for call, more in ((classes_at, ()), (free_classes, ()), (switched, ((),)), (switched, (None,))):
                            self.assertRaisesJust(InvalidOperation, call, web, u, v, *more, backward=backward)

    def test_wrong_places(self):
        right = ((), (3,), (4,), (5,), (3, 4), (3, 5), (4, 5), (3, 4, 5))
        for places in ANY_KIND + ((1, 2), (6,), (3, 6), (4, 3), (3, 3), (False,), (3, LONG), (3, "4"), [3], (9,), (-1, 3)):
            if not any(same(places, other) for other in right):
                self.assertRaisesJust(InvalidOperation, switched, WORDS, 1, 2, places)
        for places in right:
            switched(WORDS, 1, 2, places)

    def test_the_first_switch_that_is_not_possible(self):
        good = (1, 2, (3,))
        # Behind the first switch the place 4 is next to u still, and 6 too.
        self.assertRefused(InvalidNumber, "value", LONG, switched_all, WORDS, (good, (LONG, -1, None)))
        self.assertRefused(InvalidNumber, "value", True, switched_all, WORDS, (good, (1, True, None), (-5, 0, ())))
        self.assertRefused(InvalidNumber, "value", None, switched_all, WORDS, ((None, 2, ()), good))
        for wrong in ((1, 2, (3,)), (1, 3, ()), (1, 1, ()), (1, 2, [4]), (1, 2, (4, 3)), (1, 2, None), (0, 1, (0,))):
            self.assertRaisesJust(InvalidOperation, switched_all, WORDS, (good, wrong, (99, 99, 99)))
        self.assertTrue(switched_all(WORDS, (good, (1, 2, (6,)))) == WORDS)
        # A web that is not lone is told ahead of its moves.
        self.assertRefused(NotLone, "reason", 2, switched_all, BENT, ((99, 99, 99),))

    def test_is_switch_of_other_webs(self):
        for other in (BENT, DOT, FULL, LOOP, DEEP):
            self.assertIs(is_switch(NINE, other), False)
            self.assertIs(is_switch(NINE, other, backward=True), False)
        # The web has to be lone, the other one need not be.
        self.assertRefused(NotLone, "reason", 2, is_switch, BENT, NINE)
        self.assertRefused(NotLone, "reason", 2, is_switch, FULL, FULL, backward=True)

    def test_errors_come_with_the_first_result(self):
        found = each_switch(None, backward=3)
        self.assertRaisesJust(InvalidWeb, next, found)


if __name__ == "__main__":
    unittest.main()
