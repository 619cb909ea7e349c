"""Walks in webs: stage 4."""

import itertools
import math
import unittest

from onebetween.errors import InvalidNumber, InvalidWalk
from onebetween.webs.making import all_ties, both, product, word_web
from onebetween.webs.walks import (
    MAX_STEPS, components, count_walks, distance, each_walk, farthest, is_walk, layers, nth_walk, period, walk_counts, walk_index,
)
from onebetween.webs.webs import Web
from tests.cases import Case
from tests.some_webs import ALL, BARE, DEEP, DOT, FULL, LOOP, RING_65, all_walks, small_webs
from tests.wrong_values import ANY_KIND, BENT, FOUR, LONG, NINE, NO_COUNTS, NO_WEBS, no_numbers, number_rule, web_rule

STEPS = 0, 200
CYCLE = Web(tuple(((place + 1) % 256,) for place in ALL))
# From most of the places no walk leads back to place 0: they are all tied to each other.
TRAP = Web(((0, 1, 2),) + ((2, 3, 4, 5, 6),) + (tuple(range(2, 40)),) * 38)


def first_of(walks):
    return next(walks)


def firsts(*given):
    """Ask for the first walk, so that errors are raised."""
    return next(each_walk(*given), None)


def some_webs():
    return small_webs()[:3] + small_webs()[3::3] + [LOOP, DOT, BARE, DEEP, all_ties(4), both(FOUR, BARE), product(BENT, Web(((1,), (0,))))]


class IsWalk(Case):
    def test_by_force(self):
        for web in some_webs():
            if len(web) > 4:
                continue
            for steps in range(4):
                walks = {walk for place in range(len(web)) for walk in all_walks(web, place, steps)}
                for value in itertools.product(range(-1, len(web) + 1), repeat=steps + 1):
                    self.assertIs(is_walk(web, value), value in walks)

    def test_limits(self):
        self.assertEqual(MAX_STEPS, 200)
        for web, place in ((LOOP, 0), (FOUR, 3), (FULL, 255)):
            for many in (1, 2, 100, 200, 201, 202, 300):
                self.assertIs(is_walk(web, (place,) * many), many <= 201)
        around = tuple(place % 256 for place in range(100, 301))
        self.assertIs(is_walk(CYCLE, around), True)
        self.assertIs(is_walk(CYCLE, around[:-1] + (45,)), False)
        self.assertIs(is_walk(DOT, (0,)), True)
        self.assertIs(is_walk(DOT, (0, 0)), False)
        self.assertIs(is_walk(DOT, ()), False)

    def test_kinds(self):
        right = ((0,), (1, 2), (0, 1, 2))
        for value in ANY_KIND:
            self.assertIs(is_walk(FOUR, value), any(value.__class__ is tuple and repr(value) == repr(other) for other in right))
        for value in ((True,), (0, True), (False, 1), (0, LONG), (LONG,), (0, "1"), (0, None), [0, 1], (0, (1,)), ((0, 1),), (0, FOUR)):
            self.assertIs(is_walk(FOUR, value), False)

    def test_wrong(self):
        self.assertRefusals(is_walk, (FOUR, (0, 1)), web_rule())


class Counts(Case):
    def test_by_force(self):
        for web in some_webs():
            for steps in range(5):
                for one in range(len(web)):
                    walks = all_walks(web, one, steps)
                    wanted = tuple(len([walk for walk in walks if walk[-1] == other]) for other in range(len(web)))
                    self.assertSame(walk_counts(web, one, steps), wanted)
                    for other in range(len(web)):
                        self.assertSame(count_walks(web, one, other, steps), wanted[other])
                    ends = tuple(tuple(sorted({walk[at] for walk in walks})) for at in range(steps + 1))
                    told = layers(web, one, steps)
                    self.assertSame(told[steps], ends[steps])
                    # Places from which no walk goes on are in their layer, too.
                    for at in range(steps + 1):
                        self.assertSame(told[at], tuple(sorted({walk[-1] for walk in all_walks(web, one, at)})))

    def test_great(self):
        for steps in (1, 2, 100, 199, 200):
            many = 256 ** (steps - 1)
            self.assertTrue(count_walks(FULL, 3, 200, steps) == many)
            self.assertTrue(walk_counts(FULL, 3, steps) == (many,) * 256)
            self.assertTrue(layers(FULL, 3, steps)[1:] == (ALL,) * steps)
            self.assertEqual(layers(CYCLE, 100, steps), tuple(((100 + at) % 256,) for at in range(steps + 1)))
            self.assertEqual(count_walks(CYCLE, 100, (100 + steps) % 256, steps), 1)
            self.assertEqual(count_walks(CYCLE, 100, (101 + steps) % 256, steps), 0)
        for web, depth, degree in ((word_web(2, 8), 8, 2), (word_web(16, 2), 2, 16), (NINE, 2, 3)):
            for steps in (depth, depth + 1, 77, 200):
                self.assertTrue(walk_counts(web, 7, steps) == (degree ** (steps - depth),) * len(web))

    def test_one_step_more(self):
        # The counts of so many steps are sums of those of one step less: there is no limit to the numbers.
        web = product(BENT, Web(((1,), (0, 2), (0, 1, 2))))
        ahead = walk_counts(web, 5, 0)
        self.assertSame(ahead, (0,) * 5 + (1,) + (0,) * 6)
        for steps in range(1, 201):
            counts = [0] * len(web)
            for one, other in web.ties:
                counts[other] += ahead[one]
            ahead = walk_counts(web, 5, steps)
            self.assertTrue(ahead == tuple(counts))
        self.assertTrue(count_walks(web, 5, 8, 200) == ahead[8])

    def test_ends(self):
        for web in (DOT, BARE, Web(((1,), ()))):
            last = len(web) - 1
            self.assertSame(layers(web, last, 3), ((last,), (), (), ()))
            self.assertSame(walk_counts(web, last, 0)[last], 1)
            self.assertSame(walk_counts(web, last, 200), (0,) * len(web))
            self.assertSame([count_walks(web, last, last, 0), count_walks(web, last, last, 1)], [1, 0])

    def test_wrong(self):
        for web in (FOUR, BENT):
            one, other, steps = number_rule(1, 0, 3), number_rule(2, 0, 3), number_rule(3, *STEPS)
            for call in (count_walks, firsts):
                self.assertRefusals(call, (web, 1, 2, 5), web_rule(), one, other, steps)
            for call in (walk_counts, layers):
                self.assertRefusals(call, (web, 1, 5), web_rule(), one, number_rule(2, *STEPS))


class EachWalk(Case):
    def test_by_force(self):
        for web in some_webs():
            for steps in range(5):
                for one in range(len(web)):
                    walks = all_walks(web, one, steps)
                    for other in range(len(web)):
                        wanted = [walk for walk in walks if walk[-1] == other]
                        self.assertSame(list(each_walk(web, one, other, steps)), wanted)
                        for index, walk in enumerate(wanted):
                            self.assertSame(nth_walk(web, one, other, steps, index), walk)
                            self.assertSame(walk_index(web, walk), index)
                        many = len(wanted)
                        self.assertRefused(InvalidNumber, "value", many, nth_walk, web, one, other, steps, many)

    def test_no_way_is_gone_in_vain(self):
        # Behind place 1 no walk leads back: a search that goes there never ends.
        self.assertEqual(list(each_walk(TRAP, 0, 0, 200)), [(0,) * 201])
        self.assertEqual(list(each_walk(TRAP, 1, 0, 200)), [])
        late = Web(((0, 1),) + ((1, 2, 3),) * 2 + ((3,),))
        found = list(each_walk(late, 0, 0, 200))
        self.assertEqual(found, [(0,) * 201])
        # Walks of just 200 steps to the end of a chain of pairs of places: two for each step but the last.
        rows = [(1, 2)]
        for step in range(100):
            rows.extend([(step * 2 + 3, step * 2 + 4)] * 2)
        rows.extend([()] * 2)
        chain = Web(tuple(rows[:203]))
        walks = each_walk(chain, 0, 202, 101)
        self.assertEqual(next(walks), (0,) + tuple(range(1, 201, 2)) + (202,))
        self.assertEqual(next(walks), (0,) + tuple(range(1, 199, 2)) + (200, 202))
        self.assertEqual(list(each_walk(chain, 0, 202, 102)), [])
        self.assertEqual(list(each_walk(chain, 0, 202, 200)), [])
        self.assertTrue(count_walks(chain, 0, 202, 101) == 2 ** 100)

    def test_first_walks(self):
        for web in (FULL, word_web(16, 2), word_web(2, 8), CYCLE, DEEP):
            walks = each_walk(web, 3, (3 + 200) % len(web), 200)
            found = [walk for walk, _ in zip(walks, range(300))]
            self.assertEqual(found, sorted(set(found)))
            self.assertEqual(len(found), 1 if web is CYCLE else 300)
            for index, walk in enumerate(found):
                self.assertIs(is_walk(web, walk), True)
                self.assertEqual((walk[0], walk[-1], len(walk)), (3, (3 + 200) % len(web), 201))
                if index % 100 == 99:
                    self.assertEqual(walk_index(web, walk), index)
                    self.assertEqual(nth_walk(web, 3, (3 + 200) % len(web), 200, index), walk)

    def test_errors_come_with_the_first_walk(self):
        for given in ((None, 0, 0, 0), (FOUR, 9, 0, 0), (FOUR, 0, 9, 0), (FOUR, 0, 0, 201)):
            walks = each_walk(*given)
            self.assertRaises((ValueError, IndexError), first_of, walks)

    def test_no_steps(self):
        self.assertSame(list(each_walk(FOUR, 2, 2, 0)), [(2,)])
        self.assertSame(list(each_walk(FOUR, 2, 1, 0)), [])
        self.assertSame(nth_walk(FOUR, 2, 2, 0, 0), (2,))
        self.assertSame(walk_index(FOUR, (2,)), 0)


class ByIndex(Case):
    def test_great(self):
        for web in (FULL, word_web(16, 2), BENT, NINE):
            last = len(web) - 1
            for steps in (1, 2, 3, 60, 199, 200):
                many = count_walks(web, 0, last, steps)
                for index in sorted({0, 1, many // 7, many // 2, many - 1, 10 ** 199}):
                    if not 0 <= index < many or index >= LONG:
                        continue
                    walk = nth_walk(web, 0, last, steps, index)
                    self.assertIs(is_walk(web, walk), True)
                    self.assertEqual((len(walk), walk[0], walk[-1]), (steps + 1, 0, last))
                    self.assertTrue(walk_index(web, walk) == index)
                for index in (many, many + 1, LONG - 1):
                    if many <= index < LONG:
                        self.assertRefused(InvalidNumber, "value", index, nth_walk, web, 0, last, steps, index)
        # The index of the last walk of all can have more than 200 digits.
        self.assertTrue(walk_index(FULL, (255,) * 201) == 256 ** 199 - 1)

    def test_none(self):
        for index in (0, 1, 10 ** 199):
            for web, one, other, steps in ((DOT, 0, 0, 1), (BARE, 0, 1, 0), (BARE, 0, 0, 200), (Web(((1,), ())), 1, 0, 1)):
                self.assertRefused(InvalidNumber, "value", index, nth_walk, web, one, other, steps, index)

    def test_wrong(self):
        index = (4, NO_COUNTS, InvalidNumber, "value")
        for web in (FOUR, DEEP):
            ends = number_rule(1, 0, len(web) - 1), number_rule(2, 0, len(web) - 1)
            self.assertRefusals(nth_walk, (web, 1, 2, 5, 0), web_rule(), *ends, number_rule(3, *STEPS), index)

    def test_wrong_walks(self):
        right = ((0,), (1, 2), (0, 1, 2))
        wrong = tuple(value for value in ANY_KIND if not any(value.__class__ is tuple and repr(value) == repr(other) for other in right))
        wrong = wrong + ((0, 2), (0, 1, 1), (0, True), (False,), (4,), (-1,), (0, -1), (0,) * 202, [0, 1], (0, LONG), (3, 0), ((0, 1),))
        self.assertRefusals(walk_index, (FOUR, (0, 1)), web_rule(), (1, wrong, InvalidWalk, None))


def distances(web):
    """Return the distances of all pairs of places, by going over each place as a middle one."""
    places = range(len(web))
    found = {(one, other): 0 if one == other else 1 if other in web.rows[one] else math.inf for one in places for other in places}
    for middle, one, other in itertools.product(places, repeat=3):
        found[one, other] = min(found[one, other], found[one, middle] + found[middle, other])
    return found


class Distances(Case):
    def test_by_force(self):
        for web in small_webs() + some_webs() + [word_web(2, 4), RING_65.part(tuple(range(20)))]:
            wanted = distances(web)
            for (one, other), steps in wanted.items():
                self.assertSame(distance(web, one, other), None if steps == math.inf else steps)
            most = max(wanted.values())
            self.assertSame(farthest(web), None if most == math.inf else most)
            near = {(one, other): wanted[one, other] + wanted[other, one] < math.inf for one, other in wanted}
            parts = {tuple(other for other in range(len(web)) if near[one, other]) for one in range(len(web))}
            self.assertSame(components(web), tuple(sorted(parts)))

    def test_great(self):
        self.assertSame([farthest(FULL), farthest(CYCLE), farthest(RING_65), farthest(word_web(2, 8)), farthest(LOOP), farthest(DOT)],
                        [1, 255, 64, 8, 0, 0])
        self.assertIs(farthest(CYCLE.without_tie(255, 0)), None)
        self.assertIs(farthest(BARE), None)
        self.assertSame([distance(CYCLE, 1, 0), distance(CYCLE, 7, 7), distance(CYCLE.without_tie(255, 0), 1, 0)], [255, 0, None])
        self.assertSame(distance(CYCLE.without_tie(255, 0), 0, 255), 255)
        self.assertSame([components(FULL), components(CYCLE)], [(ALL,), (ALL,)])
        self.assertSame(components(CYCLE.without_tie(255, 0)), tuple((place,) for place in ALL))
        self.assertSame(components(Web(((),) * 256)), tuple((place,) for place in ALL))
        self.assertSame([components(LOOP), components(DOT)], [((0,),), ((0,),)])

    def test_wrong(self):
        one, other = number_rule(1, 0, 3), number_rule(2, 0, 3)
        self.assertRefusals(distance, (FOUR, 1, 2), web_rule(), one, other)
        self.assertRefusals(period, (FOUR, 1), web_rule(), one)
        for call in (farthest, components):
            self.assertRefusals(call, (FOUR,), web_rule())
        self.assertRefusals(period, (LOOP, 0), (1, no_numbers(0, 0), InvalidNumber, "value"))
        self.assertIn(None, NO_WEBS)


class Periods(Case):
    def test_by_force(self):
        for web in small_webs() + some_webs():
            if len(web) > 8:
                continue
            # The greatest common divisor of all closed walks is that of those of at most two rounds.
            for place in range(len(web)):
                steps = [step for step in range(1, 2 * len(web) + 2) if count_walks(web, place, place, step) > 0]
                self.assertSame(period(web, place), math.gcd(*steps))

    def test_some(self):
        self.assertSame([period(CYCLE, 9), period(RING_65, 64), period(FULL, 3), period(LOOP, 0), period(DOT, 0)], [256, 65, 1, 1, 0])
        path = CYCLE.without_tie(255, 0)
        self.assertSame([period(path, 0), period(path, 255), period(path.with_tie(7, 7), 7), period(path.with_tie(7, 7), 8)], [0, 0, 1, 0])
        # Closed walks of 4 and 6 steps through place 0, one of 3 steps apart, to which it leads.
        web = Web(((1, 4, 9), (2,), (3,), (0,), (5,), (6,), (7,), (8,), (0,), (10,), (11,), (9,)))
        self.assertSame([period(web, place) for place in (0, 3, 7, 9, 11)], [2, 2, 2, 3, 3])


if __name__ == "__main__":
    unittest.main()
