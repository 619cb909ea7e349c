"""Lost rows: stage 13."""

import itertools
import time
import unittest

from onebetween.errors import InvalidNumber, InvalidOperation, InvalidWeb, TooMany
from onebetween.lone.filling import fillings
from onebetween.lone.papers import is_lone
from onebetween.lone.refills import MAX_REFILLS, count_refills, is_refill, open_ties, refills, sure_ties
from onebetween.lone.switches import each_switch, switched, twins_of
from onebetween.webs.making import all_ties, both, line_web, product, word_web
from onebetween.webs.webs import Web
from tests.cases import Case
from tests.some_webs import BARE, DEEP, DOT, FULL, LOOP
from tests.wrong_values import ANY_KIND, BENT, FOUR, LONG, NINE, NO_WEBS, number_rule, same, web_rule

WORDS = word_web(3, 2)
SIXTEEN = product(FOUR, FOUR)
FOURS = word_web(4, 2)
DEPTH = number_rule(1, 1, 8)
CALLS = (refills, count_refills, sure_ties, open_ties)


def with_rows(web, places, told):
    rows = list(web.rows)
    for place, row in zip(places, told):
        rows[place] = row
    return Web(tuple(rows))


def all_refills(web, depth, places):
    """Return all refills: by trying all rows."""
    rows = [row for size in range(len(web) + 1) for row in itertools.combinations(range(len(web)), size)]
    found = [with_rows(web, places, told) for told in itertools.product(rows, repeat=len(places))]
    return sorted(some.rows for some in found if is_lone(some, depth))


def refills_by_columns(web, depth, places):
    """Return all refills: by all ways in which the places that lack ties from lost places can have them."""
    many = len(web)
    degree = next((degree for degree in range(1, many + 1) if degree ** depth == many), 0)
    columns = [[x for x in range(many) if x not in places and y in web.rows[x]] for y in range(many)]
    if any(not 0 <= degree - len(column) <= len(places) for column in columns):
        return []
    choices = [list(itertools.combinations(places, degree - len(column))) for column in columns]
    found = []
    for chosen in itertools.product(*choices):
        told = [tuple(y for y in range(many) if one in chosen[y]) for one in places]
        if all(len(row) == degree for row in told):
            some = with_rows(web, places, told)
            if is_lone(some, depth):
                found.append(some.rows)
    return sorted(found)


class Refills(Case):
    def check(self, web, depth, places, wanted):
        """Check all functions beside the rows of all refills."""
        found = refills(web, depth, places)
        self.assertIs(found.__class__, tuple)
        self.assertSame([some.rows for some in found], wanted)
        self.assertSame(count_refills(web, depth, places), len(wanted))
        for some in found[:5]:
            self.assertIs(some.__class__, Web)
            self.assertIs(is_refill(web, depth, places, some), True)
        if not wanted:
            for call in (sure_ties, open_ties):
                self.assertRaisesJust(InvalidOperation, call, web, depth, places)
            return
        ties = [{(one, other) for one in places for other in rows[one]} for rows in wanted]
        every, some = set.intersection(*ties), set.union(*ties)
        self.assertSame(sure_ties(web, depth, places), tuple(sorted(every)))
        self.assertSame(open_ties(web, depth, places), tuple(sorted(some - every)))

    def test_by_force(self):
        for web in (FOUR, BENT, FOUR.renamed((2, 0, 3, 1)), Web(((0, 1), (2, 3), (1, 3), (0, 2))), Web(((), (0, 1), (2, 3), (0, 1)))):
            for size in (1, 2, 3):
                for places in itertools.combinations(range(4), size):
                    if size < 3 or places == (0, 1, 3) or places == (1, 2, 3):
                        self.check(web, 2, places, all_refills(web, 2, places))
            for depth in (1, 3, 4, 8):
                self.check(web, depth, (0, 2), [])
        for web, depth in ((all_ties(2), 1), (all_ties(3), 1), (all_ties(2), 2), (all_ties(3), 2), (LOOP, 1), (LOOP, 8), (DOT, 1), (DOT, 5),
                           (BARE, 1), (BARE, 3)):
            for size in range(1, min(3, len(web)) + 1):
                for places in itertools.combinations(range(len(web)), size):
                    self.check(web, depth, places, all_refills(web, depth, places))

    def test_by_columns(self):
        deep = word_web(2, 4)
        twisted = switched(FOURS, *next(each_switch(FOURS)))
        cases = [(NINE, 2, 3), (WORDS, 2, 3), (NINE.turned(), 2, 3), (DEEP, 3, 3), (deep, 4, 3), (deep.turned(), 4, 3), (SIXTEEN, 2, 2), (FOURS, 2, 2),
                 (twisted, 2, 2), (line_web(NINE), 3, 2), (word_web(3, 3), 3, 2), (line_web(NINE).turned(), 3, 2), (word_web(2, 5), 5, 3)]
        for web, depth, most in cases:
            many = len(web)
            lost = [(place,) for place in range(0, many, 5)] + [(0, 1), (0, many // 2), (many - 2, many - 1), (1, 3)]
            lost.extend([web.rows[1][:2], web.columns[2][:2]])
            if most == 3:
                lost.extend([(0, 1, 2), (1, 3, 6), (0, 3, 7), (2, 5, 6), tuple(sorted({0, 3} | set(web.rows[3][:1])))])
            for places in lost:
                self.check(web, depth, places, refills_by_columns(web, depth, places))

    def test_three_twins(self):
        for web in (WORDS, NINE, NINE.turned()):
            for row in sorted(set(web.rows)):
                self.check(web, 2, row, refills_by_columns(web, 2, row))
        # Rows of twins in webs with more places: all of them are lone, and different.
        for web, places in ((FOURS, (0, 1, 2)), (SIXTEEN, (0, 1, 4)), (FOURS, (1, 2, 3)), (SIXTEEN.turned(), (0, 1, 4))):
            found = refills(web, 2, places)
            self.assertEqual(sorted(some.rows for some in found), [some.rows for some in found])
            self.assertEqual(len({some.rows for some in found}), len(found))
            self.assertTrue(any(some == web for some in found))
            for some in found:
                self.assertIs(is_lone(some, 2), True)
                self.assertTrue(all(some[place] == web[place] for place in range(16) if place not in places))

    def test_lost_rows_play_no_part(self):
        for web, depth, places in ((FOUR, 2, (0, 1)), (NINE, 2, (1, 2)), (DEEP, 3, (0, 4, 7)), (all_ties(3), 1, (1,)), (LOOP, 3, (0,))):
            wanted = refills(web, depth, places)
            for row in ((), (0,), tuple(range(len(web)))):
                spoilt = with_rows(web, places, [row] * len(places))
                self.assertEqual([some.rows for some in refills(spoilt, depth, places)], [some.rows for some in wanted])
                self.assertEqual(count_refills(spoilt, depth, places), len(wanted))
                self.assertEqual(sure_ties(spoilt, depth, places), sure_ties(web, depth, places))
                self.assertEqual(open_ties(spoilt, depth, places), open_ties(web, depth, places))

    def test_one_row(self):
        for web, depth in ((FULL, 1), (word_web(16, 2), 2), (word_web(4, 4), 4), (word_web(2, 8), 8), (word_web(6, 3), 3), (word_web(3, 5), 5),
                           (product(SIXTEEN, SIXTEEN), 2), (word_web(2, 6), 6), (word_web(2, 7), 7)):
            for place in (0, 1, len(web) // 2, len(web) - 1):
                spoilt = web.with_row(place, (0,))
                self.assertEqual([some.rows for some in refills(spoilt, depth, (place,))], [web.rows])
                self.assertSame(sure_ties(spoilt, depth, (place,)), tuple((place, other) for other in web[place]))
                self.assertSame(open_ties(spoilt, depth, (place,)), ())
                self.assertSame(count_refills(web.with_row(place - 1, (0,)), depth, (place,)) if place else 0, 0)

    def test_two_rows_of_twins(self):
        # With each free class either row can have its places, and that of their own too.
        for web in (FOURS, WORDS, NINE, SIXTEEN, word_web(8, 2), word_web(16, 2)):
            for u, v in twins_of(web.turned())[:3] + twins_of(web)[:3]:
                found = refills(web, 2, (u, v)) if len(web) < 64 else []
                for some in found:
                    self.assertEqual(sorted(some[u] + some[v]), sorted(web[u] + web[v]))
                self.assertTrue(not found or any(some == web for some in found))

    def test_many(self):
        web = word_web(16, 2)
        self.assertEqual(MAX_REFILLS, 2000)
        for places in ((1, 2), (0, 1), (1, 2, 3), (200, 201, 202)):
            for call in CALLS:
                self.assertEqual(self.assertRaisesJust(TooMany, call, web, 2, places).limit, 2000)
        # Between one and two thousand, and none instead of too many.
        self.assertSame([count_refills(word_web(10, 2), 2, (1, 2)), count_refills(word_web(4, 3), 3, (1, 2, 3))], [1024, 1296])
        found = refills(word_web(4, 3), 3, (1, 2, 3))
        self.assertEqual(len({some.rows for some in found}), 1296)
        self.assertTrue(all(is_lone(some, 3) for some in found[::50]))
        for places in ((1, 2), (1, 2, 3)):
            taken = web.with_row(100, web[101])
            self.assertSame([count_refills(taken, 2, places), refills(taken, 2, places)], [0, ()])
            self.assertRaisesJust(InvalidOperation, sure_ties, taken, 2, places)

    def test_powers(self):
        # Two lost twins of a word web: each class can go to either one.
        found = {degree: count_refills(word_web(degree, 2), 2, (1, 2)) for degree in range(3, 11)}
        self.assertSame(found, {degree: 2 ** degree for degree in range(3, 11)})
        self.assertRaisesJust(TooMany, count_refills, word_web(11, 2), 2, (1, 2))

    def test_just_as_many_as_are_let(self):
        for web, depth, places in ((WORDS, 2, (1, 2)), (WORDS, 2, (0, 1, 2)), (word_web(4, 3), 3, (1, 2, 3)), (FOUR, 2, (0, 1)), (DEEP, 3, (0, 4))):
            found = fillings(web.rows, depth, places, MAX_REFILLS)
            many = len(found)
            self.assertEqual(fillings(web.rows, depth, places, many), found)
            for most in (0, 1, many - 1):
                self.assertIs(fillings(web.rows, depth, places, most) is None, most < many)

    def test_great_webs_come_within_short_time(self):
        begin = time.process_time()
        for web, depth in ((word_web(16, 2), 2), (word_web(6, 3), 3), (word_web(4, 4), 4), (word_web(3, 5), 5), (word_web(2, 8), 8), (word_web(2, 7), 7),
                           (line_web(product(NINE, FOUR)), 3), (line_web(NINE, times=3), 5), (FULL, 1)):
            many = len(web)
            lost = [(0, 1, 2), (3, many // 2, many - 1), web.rows[5][:3], web.columns[5][:3], (0, 1), (many // 3,)]
            for places in lost:
                try:
                    found = count_refills(web, depth, places)
                except TooMany:
                    continue
                self.assertGreaterEqual(found, 1)
                self.assertTrue(set(sure_ties(web, depth, places)) <= {(one, other) for one in places for other in web[one]})
        self.assertLess(time.process_time() - begin, 30)

    def test_no_power_and_two_walks(self):
        for many in (2, 3, 5, 6, 8, 12, 20, 255):
            for depth in (2, 3, 4, 8) if many != 8 else (2, 4, 5):
                self.assertSame([refills(all_ties(many), depth, (0,)), count_refills(all_ties(many), depth, (0, 1))], [(), 0])
        for web, depth in ((FULL, 2), (FULL, 8), (NINE.with_row(3, (0, 1, 4)), 2),
                           (both(FOUR, both(FOUR, LOOP)), 2), (word_web(16, 2), 4), (word_web(4, 4), 2), (Web(((),) * 256), 8)):
            self.assertSame([refills(web, depth, (0,)), count_refills(web, depth, (0, 1, 2))], [(), 0])
        # Of depth 1 all known rows are full.
        self.assertSame(count_refills(FULL.without_tie(3, 4), 1, (3,)), 1)
        self.assertSame(count_refills(FULL.without_tie(3, 4), 1, (4,)), 0)


class Judged(Case):
    def test_kinds(self):
        for web, depth, places in ((FOUR, 2, (0, 1)), (BENT, 2, (0,)), (LOOP, 4, (0,)), (FULL, 1, (3, 4, 5))):
            for value in ANY_KIND + NO_WEBS + (NINE, BENT, DEEP, (FOUR,), FOUR.rows):
                right = isinstance(value, Web) and len(value) == len(web) and is_lone(value, depth)
                right = right and all(value[place] == web[place] for place in range(len(web)) if place not in places)
                self.assertIs(is_refill(web, depth, places, value), right)

    def test_changed_webs(self):
        for web, depth, places in ((FOUR, 2, (0, 1)), (NINE, 2, (1, 2)), (DEEP, 3, (0, 3, 6)), (all_ties(3), 1, (1,))):
            others = [with_rows(web, (one,), (row,)) for one in range(len(web)) for row in itertools.combinations(range(len(web)), len(web[0]))]
            others.extend(web.with_row(one, web[other]).with_row(other, web[one]) for one, other in itertools.combinations(range(len(web)), 2))
            others.extend([web.turned(), web.renamed(tuple(range(len(web)))[::-1]), both(web, LOOP), web.part(tuple(range(len(web) - 1)))])
            for other in others:
                right = len(other) == len(web) and is_lone(other, depth)
                right = right and all(other[place] == web[place] for place in range(len(web)) if place not in places)
                self.assertIs(is_refill(web, depth, places, other), right)
                for more in range(1, 9):
                    if more != depth:
                        self.assertIs(is_refill(web, more, places, other), False)

    def test_loop_of_each_depth(self):
        for depth in range(1, 9):
            for web in (LOOP, DOT):
                self.assertEqual([some.rows for some in refills(web, depth, (0,))], [((0,),)])
                self.assertIs(is_refill(web, depth, (0,), LOOP), True)
                self.assertIs(is_refill(web, depth, (0,), DOT), False)
                self.assertSame([sure_ties(web, depth, (0,)), open_ties(web, depth, (0,))], [((0, 0),), ()])


class Wrong(Case):
    def test_arguments(self):
        right = ((0,), (1, 2), (0, 1, 2), (0, 3))
        wrong = tuple(value for value in ANY_KIND if not any(same(value, other) for other in right))
        wrong = wrong + ((), (0, 1, 2, 3), (1, 0), (0, 0), (4,), (-1,), (0, True), (False,), (0, LONG), (0, "1"), [0], (0, 1, 4))
        rules = (web_rule(), DEPTH, (2, wrong, InvalidOperation, None))
        for web in (FOUR, BENT):
            for call in (refills, count_refills):
                self.assertRefusals(call, (web, 2, (0,)), *rules)
            self.assertRefusals(is_refill, (web, 2, (0,), None), *rules)
        for call in (sure_ties, open_ties):
            self.assertRefusals(call, (FOUR, 2, (0,)), *rules)
        for call in CALLS:
            self.assertRaisesJust(InvalidOperation, call, FULL, 1, (0, 1, 256))
            self.assertRaisesJust(InvalidOperation, call, LOOP, 1, (0, 1))
            self.assertRaisesJust(InvalidNumber, call, FOUR, 9, ())
            self.assertRaisesJust(InvalidWeb, call, None, 9, ())


if __name__ == "__main__":
    unittest.main()
