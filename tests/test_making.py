"""Webs that are made out of numbers or out of other webs: stage 3."""

import itertools
import unittest

from onebetween.errors import InvalidNumber, InvalidOperation, TooMany
from onebetween.webs.making import (
    all_ties, both, is_order, line_ties, line_web, pair_of, place_in, place_of, product, shifted, strides, word_of, word_web,
)
from onebetween.webs.webs import Web
from tests.cases import Case
from tests.some_webs import ALL, BARE, DOT, FULL, LOOP, all_walks, small_webs
from tests.wrong_values import ANY_KIND, BENT, FOUR, LONG, NINE, NO_COUNTS, number_rule, same, web_rule, without

LARGEST = LONG - 1
DEGREE = (0, NO_COUNTS + (0,), InvalidNumber, "value")
CYCLE = Web(tuple(((place + 1) % 256,) for place in range(256)))
PATH = Web(((1,), (2,), ()))


def word_sizes():
    """Return all degrees and depths of word webs of at most 256 places."""
    return [(degree, depth) for depth in range(1, 9) for degree in range(1, 257) if degree ** depth <= 256]


class WordWeb(Case):
    def test_words(self):
        for degree, depth in word_sizes():
            if degree > 20:
                continue
            words = list(itertools.product(range(degree), repeat=depth))
            rows = word_web(degree, depth).rows
            for word, row in zip(words, rows):
                behind = [word[1:] + (figure,) for figure in range(degree)]
                self.assertSame(row, tuple(words.index(other) for other in behind))
            self.assertEqual(len(rows), len(words))

    def test_sizes(self):
        self.assertEqual(len(word_sizes()), 256 + 16 + 6 + 4 + 3 + 2 + 2 + 2)
        for degree, depth in word_sizes():
            web = word_web(degree, depth)
            self.assertIs(web.__class__, Web)
            self.assertEqual((len(web), web.degree), (degree ** depth, degree))
        for depth in range(1, 9):
            self.assertTrue(word_web(1, depth) == LOOP)

    def test_too_many(self):
        for degree, depth in ((257, 1), (17, 2), (7, 3), (5, 4), (4, 5), (3, 6), (3, 7), (3, 8), (LARGEST, 1), (LARGEST, 8)):
            self.assertEqual(self.assertRaisesJust(TooMany, word_web, degree, depth).limit, 256)

    def test_wrong(self):
        self.assertRefusals(word_web, (2, 2), DEGREE, number_rule(1, 1, 8))
        # TooMany comes behind the errors of all arguments.
        self.assertRefusals(word_web, (300, 9), number_rule(1, 1, 8))


class AllTies(Case):
    def test_all(self):
        for number in range(1, 257):
            web = all_ties(number)
            self.assertEqual(web.rows, (tuple(range(number)),) * number)
        self.assertTrue(all_ties(256) == FULL)

    def test_wrong(self):
        self.assertRefusals(all_ties, (2,), DEGREE)
        for number in (257, 258, 10 ** 9, LARGEST):
            self.assertEqual(self.assertRaisesJust(TooMany, all_ties, number).limit, 256)


class Words(Case):
    def test_all(self):
        for degree, depth in word_sizes():
            words = list(itertools.product(range(degree), repeat=depth))
            for place, word in enumerate(words):
                self.assertSame(word_of(degree, depth, place), word)
                self.assertSame(place_of(degree, depth, word), place)

    def test_wrong_places(self):
        self.assertRefusals(word_of, (2, 3, 1), DEGREE, number_rule(1, 1, 8), number_rule(2, 0, 7))
        self.assertRefusals(word_of, (1, 8, 0), DEGREE, number_rule(1, 1, 8), number_rule(2, 0, 0))
        self.assertRefusals(word_of, (16, 2, 0), number_rule(2, 0, 255))
        self.assertRefusals(word_of, (256, 1, 0), number_rule(2, 0, 255))

    def test_wrong_words(self):
        wrong = without(ANY_KIND, (1, 2)) + ((0, 3), (3, 0), (1,), (1, 2, 0), (-1, 0), (0, True), (1, LONG), (1, "1"), [1, 2], (1, None))
        rule = (2, wrong, InvalidOperation, None)
        self.assertRefusals(place_of, (3, 2, (1, 2)), DEGREE, number_rule(1, 1, 8), rule)
        self.assertRaisesJust(InvalidOperation, place_of, 3, 1, (1, 2))
        self.assertRaisesJust(InvalidOperation, place_of, 1, 1, (1,))


def line_web_by_force(web):
    """Return the rows of the line web, by its walks of one step and their continuations."""
    ties = [walk for place in range(len(web)) for walk in all_walks(web, place, 1)]
    return tuple(tuple(at for at, after in enumerate(ties) if after[0] == tie[1]) for tie in ties)


class LineWeb(Case):
    def test_small(self):
        for web in small_webs():
            ties = tuple(walk for place in range(len(web)) for walk in all_walks(web, place, 1))
            self.assertSame(line_ties(web), ties)
            if ties:
                self.assertSame(line_web(web).rows, line_web_by_force(web))

    def test_times(self):
        for web in (FOUR, NINE, BENT, LOOP, CYCLE, all_ties(2), Web(((1,), (0, 1)))):
            wanted = web
            for times in range(9):
                if len(wanted) > 256:
                    break
                self.assertSame(line_web(web, times=times).rows, wanted.rows)
                if len(wanted.ties) > 256:
                    self.assertEqual(self.assertRaisesJust(TooMany, line_web, web, times=times + 1).limit, 256)
                    self.assertEqual(self.assertRaisesJust(TooMany, line_web, web, times=8).limit, 256)
                    break
                wanted = Web(line_web_by_force(wanted))
        self.assertTrue(line_web(all_ties(2), times=7) == word_web(2, 8))
        self.assertTrue(line_web(LOOP, times=8) == LOOP)
        self.assertTrue(line_web(CYCLE, times=8) == CYCLE)
        self.assertTrue(line_web(all_ties(16)) == word_web(16, 2))

    def test_ends(self):
        self.assertSame(line_web(PATH).rows, ((1,), ()))
        self.assertSame(line_web(PATH, times=2).rows, ((),))
        self.assertSame(line_ties(DOT), ())
        for web in (DOT, BARE):
            self.assertTrue(line_web(web, times=0) == web)
        for web, times in ((DOT, 1), (BARE, 8), (PATH, 3), (PATH, 8)):
            self.assertRaisesJust(InvalidOperation, line_web, web, times=times)

    def test_too_many(self):
        grown = FULL.with_row(0, ())
        self.assertEqual(self.assertRaisesJust(TooMany, line_web, grown).limit, 256)
        # 256 ties are not too many, 257 are.
        fans = Web((tuple(range(16)),) * 16 + ((0,),))
        self.assertEqual(len(line_ties(fans)), 257)
        self.assertRaisesJust(TooMany, line_web, fans)
        self.assertEqual(len(line_web(fans.without_tie(16, 0))), 256)
        self.assertTrue(line_web(FULL, times=0) == FULL)

    def test_wrong(self):
        self.assertRefusals(line_web, (FOUR,), web_rule(), number_rule("times", 0, 8), times=1)
        self.assertRefusals(line_web, (FULL,), number_rule("times", 0, 8), times=1)
        self.assertRefusals(line_web, (DOT,), number_rule("times", 0, 8), times=1)
        self.assertRefusals(line_ties, (FOUR,), web_rule())


def product_by_force(one, other):
    pairs = list(itertools.product(range(len(one)), range(len(other))))
    rows = []
    for x, y in pairs:
        rows.append(tuple(at for at, (a, b) in enumerate(pairs) if a in one.rows[x] and b in other.rows[y]))
    return tuple(rows)


class Product(Case):
    def test_small(self):
        webs = small_webs()[:3] + small_webs()[3:60:5] + [LOOP, DOT, BARE, all_ties(2)]
        for one, other in itertools.product(webs, repeat=2):
            self.assertSame(product(one, other).rows, product_by_force(one, other))
            pairs = list(itertools.product(range(len(one)), range(len(other))))
            for place, pair in enumerate(pairs):
                self.assertSame(pair_of(one, other, place), pair)
                self.assertSame(place_in(one, other, pair), place)

    def test_sizes(self):
        self.assertTrue(product(FULL, LOOP) == FULL)
        self.assertTrue(product(all_ties(16), all_ties(16)) == FULL)
        self.assertSame(product(all_ties(16), DOT).rows, ((),) * 16)
        for one, other in ((FULL, FOUR), (FULL, FULL), (all_ties(17), all_ties(16)), (all_ties(2), all_ties(129))):
            self.assertEqual(self.assertRaisesJust(TooMany, product, one, other).limit, 256)

    def test_wrong(self):
        self.assertRefusals(product, (FULL, FULL), web_rule(0), web_rule(1))
        self.assertRefusals(pair_of, (FOUR, BENT, 3), web_rule(0), web_rule(1), number_rule(2, 0, 15))
        self.assertRefusals(pair_of, (LOOP, DOT, 0), number_rule(2, 0, 0))
        wrong = without(ANY_KIND, (1, 2)) + ((4, 0), (0, 9), (-1, 0), (0, -1), (True, 1), (1, False), (1,), [1, 2], (0, LONG), (0, "1"))
        rule = (2, wrong, InvalidOperation, None)
        self.assertRefusals(place_in, (FOUR, NINE, (1, 2)), web_rule(0), web_rule(1), rule)
        self.assertSame(place_in(FOUR, NINE, (3, 8)), 35)
        self.assertSame(place_in(NINE, FOUR, (8, 3)), 35)


class Both(Case):
    def test_small(self):
        for one, other in itertools.product((FOUR, BENT, LOOP, DOT, BARE, PATH), repeat=2):
            many = len(one)
            web = both(one, other)
            wanted = one.ties + tuple((x + many, y + many) for x, y in other.ties)
            self.assertSame(web.ties, wanted)
            self.assertEqual(len(web), many + len(other))

    def test_sizes(self):
        self.assertEqual(len(both(all_ties(255), LOOP)), 256)
        self.assertEqual(len(both(all_ties(128), all_ties(128)).ties), 2 * 128 * 128)
        for one, other in ((FULL, DOT), (DOT, FULL), (all_ties(128), all_ties(129)), (FULL, FULL)):
            self.assertEqual(self.assertRaisesJust(TooMany, both, one, other).limit, 256)

    def test_wrong(self):
        self.assertRefusals(both, (FULL, FULL), web_rule(0), web_rule(1))


class Strides(Case):
    def test_small(self):
        for web in small_webs()[:3] + small_webs()[3::7]:
            for steps in range(5):
                wanted = []
                for place in range(len(web)):
                    wanted.append(tuple(sorted({walk[-1] for walk in all_walks(web, place, steps)})))
                self.assertSame(strides(web, steps).rows, tuple(wanted))

    def test_far(self):
        for steps in (0, 1, 2, 3, 63, 64, 127, 128, 199, 200):
            wanted = tuple(((place + steps) % 256,) for place in ALL)
            self.assertSame(strides(CYCLE, steps).rows, wanted)
            self.assertTrue(strides(FULL, steps) == FULL or steps == 0)
        self.assertSame(strides(PATH, 3).rows, ((), (), ()))
        self.assertSame(strides(BARE, 0).rows, ((0,), (1,), (2,)))
        self.assertSame(strides(DOT, 0).rows, ((0,),))
        self.assertSame(strides(DOT, 200).rows, ((),))

    def test_one_step_more(self):
        web = both(product(BENT, CYCLE.part(tuple(range(5))).with_tie(4, 0)), Web(((1,), (2,), (0, 1))))
        for steps in range(200):
            ahead = strides(web, steps).rows
            wanted = tuple(tuple(sorted({after for place in row for after in web.rows[place]})) for row in ahead)
            self.assertSame(strides(web, steps + 1).rows, wanted)

    def test_wrong(self):
        self.assertRefusals(strides, (FOUR, 2), web_rule(), number_rule(1, 0, 200))


class Orders(Case):
    def test_shifted(self):
        for names in itertools.permutations(range(4)):
            for web in (FOUR, BENT):
                self.assertSame(shifted(web, names).rows, tuple(web.rows[name] for name in names))
        self.assertTrue(shifted(FULL, ALL[::-1]) == FULL)

    def test_is_order(self):
        for web in (FOUR, LOOP, BARE, FULL):
            many = len(web)
            self.assertIs(is_order(web, tuple(range(many))), True)
            self.assertIs(is_order(web, tuple(range(many))[::-1]), True)
            self.assertJudges(is_order, (web,), without(ANY_KIND, tuple(range(many))))
        for value in itertools.product(range(-1, 4), repeat=3):
            self.assertIs(is_order(BARE, value), sorted(value) == [0, 1, 2])
            self.assertIs(is_order(BARE, list(value)), False)
        for value in ((False, 1, 2), (0, True, 2), (0, 1), (0, 1, 2, 3), (0, 1, LONG), (0, 1, "2"), ((0, 1, 2),)):
            self.assertIs(is_order(BARE, value), False)

    def test_wrong(self):
        wrong = tuple(value for value in ANY_KIND if not same(value, (0, 1, 2))) + ((0, 1), (0, 0, 1), (1, 2, 3), (True, 0, 2), [0, 1, 2])
        self.assertRefusals(shifted, (BARE, (0, 1, 2)), web_rule(), (1, wrong, InvalidOperation, None))
        self.assertRefusals(is_order, (FOUR, (0, 1, 2)), web_rule())


if __name__ == "__main__":
    unittest.main()
