"""Closed sets of places, and sets that generate them: stage 9."""

import itertools
import time
import unittest

from onebetween.errors import InvalidOperation, NotLone, TooMany
from onebetween.lone.closures import (
    MAX_FORCE, MAX_SETS, closed_sets, closure, fewest_generators, generators, is_closed, is_generating, is_rise, longest_rise,
    part_web,
)
from onebetween.lone.papers import is_lone
from onebetween.webs.making import all_ties, line_web, product, word_web
from tests.cases import Case
from tests.some_webs import ALL, BARE, DEEP, DOT, FULL, LOOP, all_walks
from tests.wrong_values import ANY_KIND, BENT, FOUR, LONG, NINE, NO_WEBS, number_rule, same, web_rule

DEPTH = number_rule(1, 1, 8)
SIXTEEN = product(FOUR, FOUR)
# Webs whose sets of places can all be looked at.
SMALL = ((FOUR, 2), (NINE, 2), (DEEP, 3), (LOOP, 1), (LOOP, 8), (all_ties(2), 1), (all_ties(4), 1), (word_web(3, 2), 2), (NINE.turned(), 2),
         (FOUR.renamed((2, 0, 3, 1)), 2))
NOT_LONE = ((BENT, 2), (FOUR, 1), (FOUR, 3), (NINE, 4), (FULL, 2), (word_web(2, 8), 7), (DOT, 1), (BARE, 2))


def subsets(many):
    return [places for size in range(many + 1) for places in itertools.combinations(range(many), size)]


def walk_table(web, depth):
    return {(walk[0], walk[-1]): set(walk) for one in range(len(web)) for walk in all_walks(web, one, depth)}


def closed_by_force(web, depth):
    """Return all closed sets, by a look at the walks between all pairs of each set."""
    table = walk_table(web, depth)
    found = []
    for places in subsets(len(web)):
        if all(table[pair] <= set(places) for pair in itertools.product(places, repeat=2)):
            found.append(places)
    return sorted(found)


def least_above(found, places):
    """Return the least one of some sets that has these places."""
    return min([some for some in found if set(places) <= set(some)], key=len)


class Closed(Case):
    def test_by_force(self):
        for web, depth in SMALL:
            found = closed_by_force(web, depth)
            self.assertSame(closed_sets(web, depth), tuple(found))
            for places in subsets(len(web)):
                self.assertIs(is_closed(web, depth, places), places in found)
                least = least_above(found, places)
                self.assertSame(closure(web, depth, places), least)
                self.assertIs(is_generating(web, depth, places), len(least) == len(web))
                if places and places in found:
                    part = part_web(web, depth, places)
                    self.assertSame(part.rows, web.part(places).rows)
                    self.assertIs(is_lone(part, depth), True)
                else:
                    self.assertRaisesJust(InvalidOperation, part_web, web, depth, places)
                # A set that is not ascending is none.
                if len(places) > 1:
                    for value in (places[::-1], places[:1] + places, list(places)):
                        self.assertIs(is_closed(web, depth, value), False)
                        self.assertIs(is_generating(web, depth, value), False)

    def test_great(self):
        for web, depth in ((word_web(2, 8), 8), (word_web(16, 2), 2), (word_web(4, 4), 4), (product(SIXTEEN, SIXTEEN), 2), (line_web(NINE), 3)):
            table = walk_table(web, depth)
            for places in ((), (0,), (1,), (0, 1), (3, 9, 17), tuple(range(0, len(web), 7)), tuple(range(len(web)))):
                found = set(places)
                more = True
                while more:
                    more = set().union(*[table[pair] for pair in itertools.product(found, repeat=2)]) - found
                    found = found | more
                wanted = tuple(sorted(found))
                self.assertSame(closure(web, depth, places), wanted)
                self.assertIs(is_closed(web, depth, wanted), True)
                self.assertIs(is_closed(web, depth, places), places == wanted)
                self.assertIs(is_generating(web, depth, places), len(wanted) == len(web))
                if wanted:
                    self.assertEqual(len(part_web(web, depth, wanted)), len(wanted))
        self.assertSame(closure(FULL, 1, (3, 7, 255)), (3, 7, 255))
        self.assertSame(part_web(FULL, 1, (3, 7, 255)).rows, ((0, 1, 2),) * 3)
        self.assertIs(is_closed(FULL, 1, ALL), True)

    def test_kinds(self):
        for web, depth in ((NINE, 2), (DEEP, 3), (FULL, 1)):
            right = [value for value in ANY_KIND if any(same(value, other) for other in ((), (0,), (1, 2), (0, 1, 2)))]
            for value in ANY_KIND:
                if not any(value is other for other in right):
                    self.assertIs(is_closed(web, depth, value), False)
                    self.assertIs(is_generating(web, depth, value), False)
            for value in ((True,), (False, 1), (0, True), (LONG,), (-1,), (0, len(web)), (1, 0), (0, 0), (0, "1"), ((0,),), [0]):
                self.assertIs(is_closed(web, depth, value), False)
                self.assertIs(is_generating(web, depth, value), False)

    def test_wrong(self):
        wrong = tuple(value for value in ANY_KIND if not any(same(value, other) for other in ((), (0,), (1, 2), (0, 1, 2))))
        wrong = wrong + ((4,), (1, 0), (0, 0), (0, True), (False,), (-1, 0), (0, LONG), (0, "1"), [0], (0, 1, 2, 3, 4))
        rule = (2, wrong, InvalidOperation, None)
        empty = (2, wrong + ((),), InvalidOperation, None)
        for web in (FOUR, BENT):
            self.assertRefusals(closure, (web, 2, (0,)), web_rule(), DEPTH, rule)
            self.assertRefusals(part_web, (web, 2, (0,)), web_rule(), DEPTH, empty)
            for call in (is_closed, is_generating, is_rise):
                self.assertRefusals(call, (web, 2, ()), web_rule(), DEPTH)
            for call in (generators, fewest_generators, closed_sets, longest_rise):
                self.assertRefusals(call, (web, 2), web_rule(), DEPTH)
        self.assertIn(0, NO_WEBS)

    def test_not_lone(self):
        for web, depth in NOT_LONE:
            for call, more in ((is_closed, ((),)), (closure, ((0,),)), (part_web, ((0,),)), (is_generating, (None,)), (generators, ()),
                               (fewest_generators, ()), (closed_sets, ()), (is_rise, ((),)), (longest_rise, ())):
                self.assertRefused(NotLone, "reason", depth, call, web, depth, *more)

    def test_order_of_errors(self):
        # The empty set is refused ahead of NotLone, a set that is not closed behind it.
        self.assertRaisesJust(InvalidOperation, part_web, BENT, 2, ())
        self.assertRaisesJust(NotLone, part_web, BENT, 2, (0, 1))
        self.assertRaisesJust(InvalidOperation, part_web, FOUR, 2, (0, 1))
        # NotLone, too many places, too many sets.
        for call in (closed_sets, longest_rise):
            self.assertRaisesJust(NotLone, call, FULL, 2)
            self.assertRaisesJust(NotLone, call, all_ties(16), 2)
            self.assertEqual(self.assertRaisesJust(TooMany, call, FULL, 1).limit, 16)
            self.assertEqual(self.assertRaisesJust(TooMany, call, all_ties(17), 1).limit, 16)
            self.assertEqual(self.assertRaisesJust(TooMany, call, word_web(5, 2), 2).limit, 16)
            for many in range(10, 17):
                self.assertEqual(self.assertRaisesJust(TooMany, call, all_ties(many), 1).limit, 1000)
        self.assertRaisesJust(NotLone, fewest_generators, FULL, 2)
        for web, depth in ((FULL, 1), (all_ties(17), 1), (word_web(5, 2), 2)):
            self.assertEqual(self.assertRaisesJust(TooMany, fewest_generators, web, depth).limit, 16)


class ManySets(Case):
    def test_depth_1(self):
        for many in range(1, 10):
            for web in (word_web(many, 1), all_ties(many)):
                self.assertSame(closed_sets(web, 1), tuple(sorted(subsets(many))))
                rise = longest_rise(web, 1)
                self.assertIs(is_rise(web, 1, rise), True)
                self.assertSame([len(places) for places in rise], list(range(many + 1)))
                self.assertSame((rise[0], rise[-1]), ((), tuple(range(many))))
                for low, high in zip(rise, rise[1:]):
                    self.assertLess(set(low), set(high))
                    self.assertEqual(high, tuple(sorted(set(high))))
        for many, limit in ((10, 1000), (16, 1000), (17, 16)):
            for call in (closed_sets, longest_rise):
                for web in (word_web(many, 1), all_ties(many)):
                    self.assertEqual(self.assertRaisesJust(TooMany, call, web, 1).limit, limit)
                    self.assertRefused(NotLone, "reason", 2, call, web, 2)

    def test_many_short_questions(self):
        # The sets need not be looked at: each call takes far less than a hundredth of a second.
        begin = time.process_time()
        for call in (closed_sets, longest_rise):
            for _ in range(200):
                self.assertRaisesJust(TooMany, call, word_web(10, 1), 1)
        self.assertLess(time.process_time() - begin, 3)

    def test_greater_depths_by_force(self):
        for web, depth in ((FOUR, 2), (NINE, 2), (word_web(3, 2), 2), (SIXTEEN, 2), (word_web(4, 2), 2), (DEEP, 3), (line_web(FOUR), 3),
                           (word_web(2, 4), 4), (line_web(DEEP), 4), (NINE.turned(), 2)):
            table = walk_table(web, depth)
            masks = {pair: sum(1 << place for place in walk) for pair, walk in table.items()}
            found = []
            for mask in range(1 << len(web)):
                places = tuple(place for place in range(len(web)) if mask >> place & 1)
                if all(masks[pair] & ~mask == 0 for pair in itertools.product(places, repeat=2)):
                    found.append(places)
            self.assertSame(closed_sets(web, depth), tuple(sorted(found)))
            self.assertEqual(len(longest_rise(web, depth)), longest(found))


class Generators(Case):
    def test_by_force(self):
        for web, depth in SMALL + ((SIXTEEN, 2), (word_web(2, 4), 4), (word_web(4, 2), 2)):
            found = closed_by_force(web, depth)[:-1] if len(web) < 16 else None
            told = generators(web, depth)
            self.assertEqual((told.__class__, told), (tuple, tuple(sorted(set(told)))))
            self.assertIs(is_generating(web, depth, told), True)
            for place in told:
                self.assertIs(is_generating(web, depth, tuple(other for other in told if other != place)), False)
            fewest = fewest_generators(web, depth)
            self.assertEqual((fewest.__class__, fewest), (tuple, tuple(sorted(set(fewest)))))
            self.assertIs(is_generating(web, depth, fewest), True)
            for places in itertools.combinations(range(len(web)), len(fewest) - 1):
                self.assertIs(is_generating(web, depth, places), False)
            if found is not None:
                whole = set(range(len(web)))
                closed = [set(places) for places in found if set(places) != whole]
                self.assertFalse(any(set(told) <= some or set(fewest) <= some for some in closed if len(some) < len(web)))

    def test_ends(self):
        self.assertSame([generators(LOOP, 3), fewest_generators(LOOP, 3)], [(0,), (0,)])
        self.assertSame([generators(all_ties(16), 1), fewest_generators(all_ties(16), 1)], [tuple(range(16))] * 2)
        self.assertSame([len(fewest_generators(NINE, 2)), len(fewest_generators(SIXTEEN, 2)), len(fewest_generators(word_web(2, 4), 4))], [1, 2, 1])
        self.assertTrue(generators(FULL, 1) == ALL)
        # Here the last places are those that are not needed.
        order = (0, 3, 12, 15) + tuple(place for place in range(16) if place not in (0, 3, 12, 15))
        for names in (order, order[::-1]):
            web = SIXTEEN.renamed(names)
            told = generators(web, 2)
            self.assertIs(is_generating(web, 2, told), True)
            for place in told:
                self.assertIs(is_generating(web, 2, tuple(other for other in told if other != place)), False)
        self.assertIs(is_generating(LOOP, 1, ()), False)
        self.assertIs(is_generating(LOOP, 1, (0,)), True)
        for web, depth in ((word_web(2, 8), 8), (word_web(16, 2), 2), (product(SIXTEEN, SIXTEEN), 2)):
            told = generators(web, depth)
            self.assertIs(is_generating(web, depth, told), True)
            for place in told:
                self.assertIs(is_generating(web, depth, tuple(other for other in told if other != place)), False)


def longest(found):
    """Return the greatest number of sets in a rise through some closed sets, by force."""
    best = {}
    for places in sorted(found, key=len):
        best[places] = 1 + max([best[part] for part in best if set(part) < set(places)], default=0)
    return max(best.values())


class Rises(Case):
    def test_sets_of_greater_webs(self):
        self.assertEqual((MAX_FORCE, MAX_SETS), (16, 1000))
        self.assertSame(closed_sets(all_ties(9), 1), tuple(sorted(subsets(9))))
        for web, depth in ((SIXTEEN, 2), (word_web(4, 2), 2), (word_web(2, 4), 4)):
            found = closed_sets(web, depth)
            self.assertEqual(list(found), sorted(set(found)))
            for places in found:
                self.assertIs(is_closed(web, depth, places), True)
            for one, other in itertools.combinations(found, 2):
                self.assertIn(tuple(sorted(set(one) & set(other))), found)
                self.assertIn(closure(web, depth, tuple(sorted(set(one) | set(other)))), found)
            for place in range(16):
                self.assertIn(closure(web, depth, (place,)), found)

    def test_longest(self):
        for web, depth in SMALL + ((SIXTEEN, 2), (word_web(4, 2), 2), (word_web(2, 4), 4), (all_ties(9), 1)):
            found = closed_sets(web, depth)
            told = longest_rise(web, depth)
            self.assertIs(told.__class__, tuple)
            self.assertIs(is_rise(web, depth, told), True)
            self.assertEqual(len(told), longest(found))
            self.assertSame((told[0], told[-1]), ((), tuple(range(len(web)))))

    def test_all_rises(self):
        for web, depth in ((FOUR, 2), (all_ties(2), 1), (LOOP, 2), (NINE, 2)):
            found = closed_sets(web, depth)
            whole = tuple(range(len(web)))
            for many in range(4 if len(web) < 9 else 5):
                for value in itertools.product(found + ((0, 1),), repeat=many):
                    rising = all(set(low) < set(high) for low, high in zip(value, value[1:]))
                    wanted = many > 0 and rising and set(value) <= set(found) and value[0] == () and value[-1] == whole
                    self.assertIs(is_rise(web, depth, value), wanted)

    def test_greater_webs(self):
        self.assertIs(is_rise(FULL, 1, ((), ALL)), True)
        self.assertIs(is_rise(FULL, 1, tuple(ALL[:many] for many in range(257))), True)
        self.assertIs(is_rise(FULL, 1, tuple(ALL[:many] for many in range(256))), False)
        self.assertIs(is_rise(word_web(16, 2), 2, ((), (0,), tuple(range(256)))), True)
        self.assertIs(is_rise(word_web(16, 2), 2, ((), (1,), tuple(range(256)))), False)

    def test_kinds(self):
        for web, depth in ((FOUR, 2), (all_ties(2), 1), (LOOP, 8)):
            self.assertJudges(is_rise, (web, depth), ANY_KIND)
            whole = tuple(range(len(web)))
            for value in (((), [0], whole), [(), whole], ((), whole, whole), ((), (), whole), (whole, ()), ((),), (whole,), (), ((), whole, ()),
                          ((), (True,), whole), ((), None, whole), ((), (LONG,), whole), ((), 0, whole), (0, whole), (None, whole), ((), FOUR)):
                self.assertIs(is_rise(web, depth, value), False)
            self.assertIs(is_rise(web, depth, ((), whole)), True)


if __name__ == "__main__":
    unittest.main()
