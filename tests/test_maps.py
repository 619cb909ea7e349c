"""Maps between lone webs: stage 12."""

import itertools
import math
import unittest

from onebetween.errors import InvalidOperation, InvalidWeb, NotLone, TooMany
from onebetween.lone.closures import closure, is_closed
from onebetween.lone.maps import (
    MAX_PLACES, any_likeness, are_alike, behind, count_maps, each_map, folds, image_of, is_likeness, is_map, own_maps, spread,
)
from onebetween.lone.papers import depth_of
from onebetween.lone.switches import each_switch, switched
from onebetween.webs.making import all_ties, both, line_web, product, word_web
from onebetween.webs.webs import Web
from tests.cases import Case
from tests.some_webs import BARE, DEEP, DOT, FULL, LOOP, RING_65, small_webs
from tests.wrong_values import ANY_KIND, BENT, FOUR, LONG, NINE, NO_WEBS, same, web_rule, without

WORDS = word_web(3, 2)
SIXTEEN = product(FOUR, FOUR)
FOURS = word_web(4, 2)
TWISTED = switched(FOURS, *next(each_switch(FOURS)))
DEEP4 = word_web(2, 4)
CUBE = line_web(NINE)
FIVES = word_web(5, 2)
OTHER = (1, NO_WEBS, InvalidWeb, None)


def first_map(one, other):
    return next(each_map(one, other), None)


def maps_by_force(one, other):
    """Return all maps, place by place, ascending."""
    ties = set(other.ties)
    found = [()]
    for place in range(len(one)):
        new = [(x, y) for x, y in one.ties if max(x, y) == place]
        longer = [value + (image,) for value in found for image in range(len(other))]
        found = [value for value in longer if all((value[x], value[y]) in ties for x, y in new)]
    return found


def is_map_by_force(one, other, value):
    return all(value[y] in other.rows[value[x]] for x, y in one.ties)


# Pairs of lone webs of one depth.
PAIRS = (
    [(one, other) for one in (FOUR, NINE, WORDS, NINE.turned(), FOUR.renamed((2, 0, 3, 1))) for other in (FOUR, NINE, WORDS, SIXTEEN, TWISTED)]
    + [(SIXTEEN, FOUR), (TWISTED, FOUR), (FOURS, NINE), (SIXTEEN, SIXTEEN.turned()), (TWISTED, TWISTED.turned()), (DEEP, DEEP), (DEEP, CUBE), (CUBE, DEEP)]
    + [(all_ties(one), all_ties(other)) for one in (1, 2, 3, 4) for other in (1, 2, 3, 4)] + [(LOOP, LOOP), (DEEP4, DEEP4.turned())]
)


class Maps(Case):
    def test_by_force(self):
        for one, other in PAIRS:
            wanted = maps_by_force(one, other)
            self.assertSame(list(each_map(one, other)), wanted)
            self.assertSame(count_maps(one, other), len(wanted))
            self.assertIs(folds(one, other), any(len(set(value)) == len(other) for value in wanted))
            likenesses = [value for value in wanted if len(one) == len(other) == len(set(value))]
            self.assertIs(are_alike(one, other), likenesses != [])
            told = any_likeness(one, other)
            if likenesses:
                self.assertIn(told, likenesses)
                self.assertIs(told.__class__, tuple)
                self.assertIs(is_likeness(one, other, told), True)
                self.assertTrue(one.renamed(told) == other)
            else:
                self.assertIs(told, None)
            for value in wanted[:40]:
                self.assertIs(is_map(one, other, value), True)
                self.assertIs(is_likeness(one, other, value), value in likenesses)
                self.assertSame(image_of(one, other, value), tuple(sorted(set(value))))
                self.assertIs(is_closed(other, depth_of(other), tuple(sorted(set(value)))), True)

    def test_own_maps(self):
        for web in (FOUR, NINE, WORDS, SIXTEEN, FOURS, TWISTED, DEEP, DEEP4, LOOP, NINE.turned()) + tuple(all_ties(many) for many in range(1, 8)):
            if depth_of(web) == 1:
                wanted = tuple(itertools.permutations(range(len(web))))
            else:
                wanted = tuple(value for value in maps_by_force(web, web) if len(set(value)) == len(web))
            self.assertSame(own_maps(web), wanted)
            if len(wanted) < 100:
                for first, second in itertools.product(wanted, repeat=2):
                    self.assertIn(behind(first, second), wanted)

    def test_spread_by_force(self):
        for one, other in ((FOUR, FOUR), (FOUR, NINE), (NINE, FOUR), (NINE, NINE), (WORDS, NINE), (DEEP, DEEP), (LOOP, LOOP), (all_ties(2), all_ties(3))):
            depth = depth_of(one)
            wanted = maps_by_force(one, other)
            for size in range(min(len(one), 3 if len(one) < 9 else 2) + 1):
                for places in itertools.combinations(range(len(one)), size):
                    whole = len(closure(one, depth, places)) == len(one)
                    for images in itertools.islice(itertools.product(range(len(other)), repeat=size), 0, None if whole else 20, 1 + size * len(one) // 6):
                        seeds = dict(zip(places, images))
                        if not whole:
                            self.assertRaisesJust(InvalidOperation, spread, one, other, seeds)
                            continue
                        found = [value for value in wanted if all(value[place] == image for place, image in seeds.items())]
                        self.assertLessEqual(len(found), 1)
                        self.assertSame(spread(one, other, seeds), found[0] if found else None)
                        self.assertSame(spread(one, other, dict(reversed(list(seeds.items())))), found[0] if found else None)

    def test_spread_of_all_places(self):
        for one, other in ((NINE, FOUR), (CUBE, DEEP), (SIXTEEN, FOUR), (FIVES, FOUR)):
            for value in itertools.islice(each_map(one, other), 5):
                self.assertSame(spread(one, other, dict(enumerate(value))), value)
                for place in range(len(one)):
                    for image in range(len(other)):
                        changed = value[:place] + (image,) + value[place + 1:]
                        right = is_map_by_force(one, other, changed)
                        self.assertSame(spread(one, other, dict(enumerate(changed))), changed if right else None)
                        self.assertIs(is_map(one, other, changed), right)

    def test_likenesses_of_greater_webs(self):
        for web in (CUBE, FIVES, word_web(3, 3), DEEP4, TWISTED, SIXTEEN, CUBE.turned()):
            many = len(web)
            step = next(step for step in range(many // 2 + 1, many) if math.gcd(step, many) == 1)
            names = tuple((place * step + 2) % many for place in range(many))
            other = web.renamed(names)
            self.assertIs(is_likeness(web, other, names), True)
            told = any_likeness(web, other)
            self.assertIs(is_likeness(web, other, told), True)
            self.assertTrue(web.renamed(told) == other)
            self.assertIs(are_alike(other, web), True)
            self.assertIs(folds(web, other), True)
            # One place changed, and two places exchanged.
            for place in range(many):
                for image in range(0, many, 5):
                    swapped = list(told)
                    swapped[place], swapped[image] = swapped[image], swapped[place]
                    for value in (told[:place] + (image,) + told[place + 1:], tuple(swapped)):
                        right = is_map_by_force(web, other, value) and len(set(value)) == many
                        self.assertIs(is_likeness(web, other, value), right)
        for one, other in ((CUBE, word_web(3, 3)), (CUBE, CUBE.turned()), (SIXTEEN, TWISTED), (FOURS, TWISTED), (NINE, WORDS)):
            told = any_likeness(one, other)
            self.assertIs(are_alike(one, other), told is not None)
        self.assertSame([are_alike(CUBE, word_web(3, 3)), are_alike(FOURS, TWISTED), are_alike(FOURS, SIXTEEN)], [False, False, True])
        # Words of letters are mapped letter by letter.
        self.assertSame([count_maps(FIVES, FIVES), count_maps(word_web(3, 3), word_web(3, 3)), count_maps(FIVES, FOUR)], [3125, 27, 32])

    def test_first_maps_come_at_once(self):
        for one, other in ((all_ties(27), all_ties(27)), (all_ties(27), all_ties(2)), (FIVES, FIVES), (word_web(3, 3), CUBE)):
            found = list(itertools.islice(each_map(one, other), 30))
            self.assertEqual(found, sorted(set(found)))
            self.assertTrue(all(is_map_by_force(one, other, value) for value in found))
        self.assertSame(next(each_map(all_ties(27), all_ties(27))), (0,) * 27)

    def test_any_webs(self):
        for one, other in itertools.islice(itertools.product(small_webs()[::29], repeat=2), 0, 400, 3):
            if len(one) > 4 or len(other) > 4:
                continue
            for value in itertools.product(range(len(other)), repeat=len(one)):
                right = is_map_by_force(one, other, value)
                self.assertIs(is_map(one, other, value), right)
                self.assertIs(is_likeness(one, other, value), right and sorted(value) == list(range(len(other))))
        # A map of a web without ties to one with ties is a likeness that leads not back.
        self.assertIs(is_likeness(BARE, all_ties(3), (2, 0, 1)), True)
        self.assertIs(is_map(FULL, FULL, tuple(range(256))), True)
        self.assertIs(is_map(RING_65, FULL, (7,) * 65), True)

    def test_behind(self):
        for first, second in itertools.product(maps_by_force(NINE, FOUR), maps_by_force(FOUR, WORDS)):
            value = behind(first, second)
            self.assertSame(value, tuple(second[place] for place in first))
            self.assertIs(is_map(NINE, WORDS, value), True)
        self.assertSame([behind((), ()), behind((), (5,)), behind((0, 0), (10 ** 199,)), behind((1, 0), (7, 9))], [(), (), (10 ** 199,) * 2, (9, 7)])

    def test_count_of_depth_1(self):
        self.assertEqual(MAX_PLACES, 27)
        self.assertTrue(count_maps(FULL, FULL) == 256 ** 256)
        self.assertTrue(count_maps(all_ties(28), all_ties(3)) == 3 ** 28)
        self.assertTrue(count_maps(LOOP, FULL) == 256)
        self.assertTrue(count_maps(FULL, LOOP) == 1)


class Wrong(Case):
    def test_webs(self):
        for one in (FOUR, BENT):
            for call, more in ((is_map, (None,)), (is_likeness, (None,)), (first_map, ()), (count_maps, ()), (are_alike, ()), (any_likeness, ()), (folds, ())):
                self.assertRefusals(call, (one, FOUR) + more, web_rule(), OTHER)
            self.assertRefusals(spread, (one, FOUR, {1: 2}), web_rule(), OTHER, (2, NO_SEEDS, InvalidOperation, None))
            self.assertRefusals(image_of, (one, FOUR, (0,) * 4), web_rule(), OTHER, (2, NO_MAPS, InvalidOperation, None))
            self.assertRefusals(own_maps, (one,), web_rule())

    def test_values(self):
        for value in ANY_KIND + NO_MAPS:
            self.assertIs(is_map(FOUR, FOUR, value), False)
            self.assertIs(is_likeness(FOUR, FOUR, value), False)
            self.assertRaisesJust(InvalidOperation, image_of, FOUR, FOUR, value)
        for value in ((False,), (1,), (), (0, 0), [0], (LONG,), ("0",)):
            self.assertIs(is_map(LOOP, LOOP, value), False)
            self.assertIs(is_likeness(LOOP, LOOP, value), False)
        self.assertIs(is_likeness(all_ties(2), all_ties(2), (0, 0)), False)
        self.assertIs(is_likeness(all_ties(2), all_ties(2), (True, 0)), False)
        self.assertIs(is_likeness(all_ties(2), all_ties(3), (0, 1)), False)

    def test_behind(self):
        good = (0, 1)
        wrong = ((0, 2), (0, -1), (0, True), (False, 1), (0, LONG), [0, 1], (0, "1"), (0, None), ((0,), 1))
        for value in wrong + without(ANY_KIND, (), (0,)):
            self.assertRaisesJust(InvalidOperation, behind, value, good) if not same(value, (1, 0)) else None
        for value in wrong[1:] + without(ANY_KIND, (), (0,), (1, 2), (0, 1, 2)):
            self.assertRaisesJust(InvalidOperation, behind, (0, 1), value)
            self.assertRaisesJust(InvalidOperation, behind, (), value)
        for second in ((), (0,), (0, 1)):
            self.assertRaisesJust(InvalidOperation, behind, (0, 2), second)

    def test_not_lone(self):
        for wrong in (BENT, DOT, BARE, RING_65, both(FOUR, FOUR), FULL.without_tie(0, 0)):
            for one, other in ((wrong, FOUR), (FOUR, wrong), (wrong, wrong), (wrong, DEEP), (FULL, wrong)):
                value = (0,) * len(one)
                calls = [(first_map, ()), (count_maps, ()), (are_alike, ()), (any_likeness, ()), (folds, ()), (spread, ({0: 0},)), (spread, ({},))]
                for call, more in calls + ([(image_of, (value,))] if is_map_by_force(one, other, value) else []):
                    self.assertIs(self.assertRaisesJust(NotLone, call, one, other, *more).reason, None)
            self.assertIs(self.assertRaisesJust(NotLone, own_maps, wrong).reason, None)

    def test_unlike_depths(self):
        # The least depth of one place with a loop is 1.
        for one, other in ((FOUR, DEEP), (NINE, all_ties(9)), (LOOP, FOUR), (FOUR, LOOP), (FULL, word_web(16, 2)), (DEEP4, FOURS)):
            for call, more in ((first_map, ()), (count_maps, ()), (folds, ()), (spread, ({0: 0},)), (spread, ({},))):
                self.assertRaisesJust(InvalidOperation, call, one, other, *more)
            if max(len(one), len(other)) <= 27:
                self.assertSame([are_alike(one, other), any_likeness(one, other)], [False, None])
            else:
                for call in (are_alike, any_likeness):
                    self.assertEqual(self.assertRaisesJust(TooMany, call, one, other).limit, 27)
        self.assertRaisesJust(InvalidOperation, image_of, FOUR, LOOP, (0, 0, 0, 0))
        self.assertRaisesJust(InvalidOperation, image_of, word_web(16, 2), FULL, (0,) * 256)

    def test_too_many(self):
        great = word_web(6, 2)
        for one, other in ((great, FOUR), (FOUR, great), (all_ties(28), all_ties(27)), (all_ties(27), all_ties(28)), (word_web(2, 8), word_web(2, 8))):
            calls = [(first_map, ()), (are_alike, ()), (any_likeness, ()), (folds, ()), (spread, ({0: 0},)), (image_of, ((0,) * len(one),))]
            for call, more in calls + ([] if depth_of(one) == 1 else [(count_maps, ())]):
                self.assertEqual(self.assertRaisesJust(TooMany, call, one, other, *more).limit, 27)
        for call, wanted in ((are_alike, True), (any_likeness, tuple(range(27))), (folds, True)):
            self.assertSame(call(all_ties(27), all_ties(27)), wanted)
        self.assertSame(image_of(all_ties(27), all_ties(27), (26,) * 27), (26,))
        self.assertSame(spread(all_ties(27), all_ties(3), {place: place % 3 for place in range(27)}), (0, 1, 2) * 9)

    def test_own_maps_too_many(self):
        for web, limit in ((all_ties(8), 7), (all_ties(16), 7), (all_ties(17), 16), (FULL, 16), (FIVES, 16), (word_web(2, 5), 16), (CUBE, 16),
                           (word_web(6, 2), 16)):
            self.assertEqual(self.assertRaisesJust(TooMany, own_maps, web).limit, limit)
        self.assertEqual([len(own_maps(all_ties(7))), len(own_maps(DEEP4)), len(own_maps(FOURS))], [5040, 2, 24])

    def test_seeds_that_do_not_generate(self):
        # Behind all others: also if the web is too great, or not lone.
        self.assertRaisesJust(InvalidOperation, spread, FOUR, FOUR, {0: 0})
        self.assertRaisesJust(InvalidOperation, spread, FOUR, FOUR, {0: 1})
        self.assertRaisesJust(InvalidOperation, spread, FOUR, FOUR, {})
        self.assertRaisesJust(InvalidOperation, spread, all_ties(3), all_ties(3), {0: 1, 1: 2})
        self.assertRaisesJust(TooMany, spread, word_web(6, 2), FOUR, {})
        self.assertRaisesJust(NotLone, spread, BENT, FOUR, {})
        # What does not generate all is refused, also if it leads to no map.
        self.assertRaisesJust(InvalidOperation, spread, NINE, NINE, {0: 1})
        self.assertSame(spread(FOUR, FOUR, {0: 1, 3: 1}), None)

    def test_errors_come_with_the_first_result(self):
        for given, error in (((None, FOUR), InvalidWeb), ((BENT, FOUR), NotLone), ((FOUR, DEEP), InvalidOperation), ((FULL, FULL), TooMany)):
            found = each_map(*given)
            self.assertRaisesJust(error, next, found)


NO_MAPS = ((0, 0, 0, 1), (0, 0, 0), (0,) * 5, [0, 0, 0, 0], (0, 0, 0, False), (0, 0, 0, 4), (0, 0, 0, -1), (0, 0, 0, LONG), (0, 0, 0, "0"), (1, 2, 3, 0))
NO_SEEDS = without(ANY_KIND, {0: 1}, {}) + ({1: 4}, {4: 1}, {-1: 0}, {0: -1}, {True: 0}, {0: True}, {False: 0}, {1: LONG}, {LONG: 1}, {"1": 0}, {(0,): 0},
                                           {1: None}, {None: 1}, {1: 2, "a": 0}, {0: 0, 1: (1,)}, [(1, 2)], ((1, 2),))


if __name__ == "__main__":
    unittest.main()
