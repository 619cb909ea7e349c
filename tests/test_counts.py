"""Closed walks and rings: stage 7."""

import itertools
import unittest

from onebetween.errors import InvalidWalk, NotLone
from onebetween.lone.counts import (
    MAX_LENGTH, MAX_STEPS, census, count_closed, count_rings, each_ring, is_ring, ring_of, rings_at,
)
from onebetween.webs.making import all_ties, both, line_web, product, word_web
from onebetween.webs.webs import Web
from tests.cases import Case
from tests.some_webs import BARE, DEEP, DOT, FULL, LOOP, all_walks, small_webs
from tests.wrong_values import ANY_KIND, BENT, FOUR, LONG, NINE, number_rule, web_rule

DEPTH = number_rule(1, 1, 8)
LENGTH = 1, 200
LONE = ((FOUR, 2), (NINE, 2), (DEEP, 3), (all_ties(3), 1), (LOOP, 1), (LOOP, 8), (FOUR.renamed((2, 0, 3, 1)), 2), (NINE.turned(), 2))
NOT_LONE = ((BENT, 2), (FOUR, 1), (FOUR, 3), (NINE, 4), (FULL, 2), (word_web(2, 8), 7), (DOT, 1), (BARE, 2))


def rounds(web, steps):
    """Return all closed walks of so many steps, without their last places."""
    return [walk[:-1] for place in range(len(web)) for walk in all_walks(web, place, steps) if walk[0] == walk[-1]]


def turnings(places):
    return [places[at:] + places[:at] for at in range(len(places))]


def is_new(places):
    """Tell whether a closed walk repeats no shorter one."""
    return turnings(places).count(places) == 1


def rings(web, length):
    """Return all rings of a length by force, ascending."""
    return sorted({min(turnings(places)) for places in rounds(web, length) if is_new(places)})


def first_ring(*given):
    return next(each_ring(*given), None)


class Numbers(Case):
    def test_by_force(self):
        self.assertEqual((MAX_STEPS, MAX_LENGTH), (200, 60))
        for web, depth in LONE:
            wanted = {}
            for steps in range(1, 6 if len(web) > 4 else 8):
                found = rounds(web, steps)
                self.assertSame(count_closed(web, depth, steps), len(found))
                wanted[steps] = len(rings(web, steps))
                self.assertSame(count_rings(web, depth, steps), wanted[steps])
                self.assertSame(census(web, depth, steps), wanted)
                for place in range(len(web)):
                    new = [places for places in found if places[0] == place and is_new(places)]
                    self.assertSame(rings_at(web, depth, place, steps), len(new))

    def test_great(self):
        for web, depth, degree in ((FULL, 1, 256), (word_web(16, 2), 2, 16), (word_web(2, 8), 8, 2), (line_web(NINE), 3, 3), (LOOP, 5, 1)):
            told = census(web, depth, 200)
            self.assertEqual(list(told), list(range(1, 201)))
            for steps in range(1, 201):
                self.assertTrue(count_closed(web, depth, steps) == degree ** steps)
                # Each closed walk is a ring, turned and repeated, in just one way.
                closed = sum(told[part] * part for part in range(1, steps + 1) if steps % part == 0)
                self.assertTrue(closed == degree ** steps)
            for steps in (1, 2, 12, 60, 61, 199, 200):
                self.assertTrue(count_rings(web, depth, steps) == told[steps])
                self.assertTrue(census(web, depth, steps) == {length: told[length] for length in range(1, steps + 1)})

    def test_rings_at_a_place(self):
        for web, depth, degree in ((FULL, 1, 256), (word_web(16, 2), 2, 16), (word_web(2, 8), 8, 2), (LOOP, 8, 1)):
            for place in (0, len(web) // 2, len(web) - 1):
                told = {steps: rings_at(web, depth, place, steps) for steps in range(1, 201)}
                for steps in range(1, 201):
                    closed = sum(told[part] for part in range(1, steps + 1) if steps % part == 0)
                    if steps >= depth:
                        self.assertTrue(closed == degree ** (steps - depth))
                    else:
                        self.assertEqual(closed, len([walk for walk in all_walks(web, place, steps) if walk[-1] == place]))

    def test_rings_at_all_places(self):
        # Each ring without a repeated place count: it is begun at each of its places.
        for web, depth in LONE:
            for length in (1, 2, 3, 4, 5, 30, 200):
                total = sum(rings_at(web, depth, place, length) for place in range(len(web)))
                self.assertTrue(total == length * count_rings(web, depth, length))

    def test_not_lone(self):
        for web, depth in NOT_LONE:
            for call in (count_closed, count_rings, census):
                self.assertRefused(NotLone, "reason", depth, call, web, depth, 1)
            self.assertRefused(NotLone, "reason", depth, rings_at, web, depth, 0, 1)

    def test_wrong(self):
        for web in (FOUR, BENT):
            for call in (count_closed, count_rings, census):
                self.assertRefusals(call, (web, 2, 5), web_rule(), DEPTH, number_rule(2, *LENGTH))
            self.assertRefusals(rings_at, (web, 2, 1, 5), web_rule(), DEPTH, number_rule(2, 0, 3), number_rule(3, *LENGTH))


def some_webs():
    loose = both(both(DOT, FOUR), both(LOOP, Web(((1,), (0,)))))
    return small_webs() + [LOOP, DOT, BARE, DEEP, all_ties(4), loose, product(BENT, Web(((1,), (0,))))]


class Rings(Case):
    def test_by_force(self):
        for web in some_webs():
            for length in range(1, 6 if len(web) < 4 else 5):
                wanted = rings(web, length)
                self.assertSame(list(each_ring(web, length)), wanted)
                for ring in wanted:
                    self.assertIs(is_ring(web, ring), True)
                for places in rounds(web, length):
                    self.assertIs(is_ring(web, places), places in wanted)
                    ring, times = ring_of(web, places + places[:1])
                    self.assertIn(ring * times, turnings(places))
                    self.assertTrue(is_new(ring) and min(turnings(ring)) == ring)
                    self.assertSame(ring_of(web, places + places[:1]), (ring, times))

    def test_all_tuples(self):
        for web in (FOUR, BENT, Web(((1, 2), (0, 1), (1,))), LOOP, DOT):
            for length in range(1, 5):
                wanted = rings(web, length)
                for value in itertools.product(range(-1, len(web) + 1), repeat=length):
                    self.assertIs(is_ring(web, value), value in wanted)

    def test_numbers_are_those_of_lone_webs(self):
        for web, depth, longest in ((FOUR, 2, 14), (DEEP, 3, 12), (NINE, 2, 8), (all_ties(5), 1, 6), (LOOP, 3, 60), (word_web(16, 2), 2, 3)):
            for length in range(1, longest + 1):
                found = list(each_ring(web, length))
                self.assertEqual(len(found), count_rings(web, depth, length))
                self.assertTrue(all(one < other for one, other in zip(found, found[1:])))

    def test_great(self):
        cycle = Web(tuple(((place + 1) % 60,) for place in range(60)))
        self.assertSame(list(each_ring(cycle, 60)), [tuple(range(60))])
        for length in (1, 2, 30, 59):
            self.assertSame(list(each_ring(cycle, length)), [])
        self.assertIs(is_ring(cycle, tuple(range(60))), True)
        self.assertIs(is_ring(cycle, tuple(range(1, 60)) + (0,)), False)
        self.assertSame(ring_of(cycle, tuple(range(7, 60)) + tuple(range(8))), (tuple(range(60)), 1))
        self.assertSame(list(each_ring(FULL, 1)), [(place,) for place in range(256)])
        self.assertEqual(len(list(each_ring(FULL, 2))), 256 * 255 // 2)
        found = [ring for ring, _ in zip(each_ring(FULL, 60), range(300))]
        self.assertEqual(found, [(0,) * 59 + (place,) for place in range(1, 256)] + [(0,) * 58 + (1, place) for place in range(1, 46)])
        # All ways that leave place 1 are many, but no ring passes them.
        lost = Web(((0, 1), (0, 2, 3)) + ((2, 3),) * 2)
        self.assertEqual(len(list(each_ring(lost, 20))), len(list(each_ring(Web(((0, 1), (0,))), 20))) + count_rings(all_ties(2), 1, 20))

    def test_lengths(self):
        for many in (1, 2, 59, 60, 61, 62):
            ring = (0,) * (many - 1) + (1,)
            self.assertIs(is_ring(FULL, ring), many <= 60)
            walk = ring + (0,)
            if many <= 60:
                self.assertSame(ring_of(FULL, ring + ring[:1]), (ring, 1))
                self.assertSame(ring_of(FULL, (5,) * (many + 1)), ((5,), many))
            else:
                self.assertRaisesJust(InvalidWalk, ring_of, FULL, walk)
                self.assertRaisesJust(InvalidWalk, ring_of, FULL, (5,) * (many + 1))
        self.assertIs(is_ring(LOOP, (0,)), True)
        self.assertIs(is_ring(LOOP, (0, 0)), False)
        self.assertIs(is_ring(DOT, (0,)), False)
        self.assertIs(is_ring(FOUR, ()), False)
        self.assertSame(ring_of(FULL, (3, 1, 2) * 20 + (3,)), ((1, 2, 3), 20))
        self.assertSame(ring_of(FOUR, (2, 1, 2)), ((1, 2), 1))

    def test_kinds(self):
        self.assertJudges(is_ring, (NINE,), tuple(value for value in ANY_KIND if value != (0,) or value[0] is False))
        self.assertIs(is_ring(NINE, (0,)), True)
        for value in ((True, 2), (False,), (0, True), (LONG,), (1, LONG), (1, "2"), [1, 2], (1, None), (1, (2,)), ((1, 2),), "12"):
            self.assertIs(is_ring(FOUR, value), False)
        self.assertIs(is_ring(FOUR, (1, 2)), True)

    def test_errors_come_with_the_first_ring(self):
        for given in ((None, 3), (FOUR, 0), (FOUR, 61), (FOUR, True)):
            found = each_ring(*given)
            self.assertRaises((ValueError, IndexError), next, found)

    def test_wrong(self):
        self.assertRefusals(is_ring, (FOUR, (1, 2)), web_rule())
        for web in (FOUR, BENT, DOT):
            self.assertRefusals(first_ring, (web, 5), web_rule(), number_rule(1, 1, 60))
        wrong = ((0,), (), (0, 1), (1, 2, 3), (0, 1, 0), (0, 0, 1), (True, 2, 1), (1, 2, True), (0, False), [0, 0], (4, 4), (-1, -1), (LONG, LONG))
        rule = (1, wrong + ANY_KIND, InvalidWalk, None)
        self.assertRefusals(ring_of, (FOUR, (0, 0)), web_rule(), rule)
        self.assertRaisesJust(InvalidWalk, ring_of, DOT, (0, 0))


if __name__ == "__main__":
    unittest.main()
