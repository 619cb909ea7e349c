"""Webs that are made out of others: point 0.11, and stage 2."""

import itertools
import unittest

from onebetween.errors import InvalidNumber, InvalidOperation
from onebetween.webs.webs import Web
from tests.cases import Case
from tests.some_webs import ALL, FULL, all_rows, small_webs
from tests.wrong_values import BENT, FOUR, LONG, NINE, NO_COUNTS, without

NO_PLACES = NO_COUNTS + (4, 5, 255, 256, LONG)


class Turning(Case):
    def test_turned(self):
        for web in small_webs():
            turned = web.turned()
            self.assertIs(turned.__class__, Web)
            self.assertSame(turned.ties, tuple(sorted((other, one) for one, other in web.ties)))
            self.assertEqual(turned.turned(), web)
            self.assertEqual(len(turned), len(web))

    def test_largest(self):
        self.assertEqual(FULL.turned(), FULL)
        arrow = Web(((),) * 255 + (ALL,))
        self.assertSame(arrow.turned().rows, ((255,),) * 256)


class Renaming(Case):
    def test_renamed(self):
        for web in small_webs():
            if len(web) > 4:
                continue
            for names in itertools.permutations(range(len(web))):
                renamed = web.renamed(names)
                self.assertIs(renamed.__class__, Web)
                self.assertSame(renamed.ties, tuple(sorted((names[one], names[other]) for one, other in web.ties)))

    def test_not_the_other_way(self):
        arrow = Web(((1,), (), ()))
        self.assertSame(arrow.renamed((1, 2, 0)).rows, ((), (2,), ()))
        self.assertSame(arrow.renamed((2, 0, 1)).rows, ((), (), (0,)))

    def test_largest(self):
        arrow = Web(((255,),) + ((),) * 255)
        self.assertSame(arrow.renamed(ALL[::-1]).ties, ((255, 0),))
        self.assertEqual(FULL.renamed(ALL[::-1]), FULL)

    def test_wrong(self):
        wrong = ((0, 1, 2), (0, 1, 2, 3, 4), (0, 1, 2, 2), (0, 1, 2, 4), (1, 2, 3, 4), (-1, 0, 1, 2), (0, True, 2, 3), (False, 1, 2, 3),
                 (0, 1, 2, LONG), (0, 1, 2, 3, 3), (0, 1, 2, None), (0, 1, 2, "3"), (0, 1, 2, [3]), (0, 1, 2, {}), (0, 1, 2, (3,)),
                 [0, 1, 2, 3], "0123", {0: 0, 1: 1, 2: 2, 3: 3})
        for names in NO_PLACES + wrong:
            with self.subTest(names=names):
                self.assertRaisesJust(InvalidOperation, FOUR.renamed, names)
        self.assertRaisesJust(InvalidOperation, FULL.renamed, ALL[:255])


class Ties(Case):
    def test_all_ties(self):
        for web in small_webs():
            places = range(len(web))
            for tie in itertools.product(places, places):
                if tie in web.ties:
                    self.assertRaisesJust(InvalidOperation, web.with_tie, *tie)
                    self.assertSame(web.without_tie(*tie).ties, tuple(old for old in web.ties if old != tie))
                else:
                    self.assertSame(web.with_tie(*tie).ties, tuple(sorted(web.ties + (tie,))))
                    self.assertRaisesJust(InvalidOperation, web.without_tie, *tie)

    def test_largest(self):
        less = FULL.without_tie(255, 255)
        self.assertSame(less[255], ALL[:255])
        self.assertEqual(less.with_tie(255, 255), FULL)
        self.assertRaisesJust(InvalidOperation, FULL.with_tie, 255, 255)
        self.assertRaisesJust(InvalidOperation, less.without_tie, 255, 255)
        self.assertRefused(InvalidNumber, "value", 256, FULL.with_tie, 256, 0)

    def test_wrong(self):
        for place in NO_PLACES:
            for call in (FOUR.with_tie, FOUR.without_tie):
                # From 0 to 0 there is a tie, from 3 to 0 there is none.
                self.assertRefused(InvalidNumber, "value", place, call, place, 0)
                self.assertRefused(InvalidNumber, "value", place, call, 0, place)
                self.assertRefused(InvalidNumber, "value", place, call, 3, place)
                self.assertRefused(InvalidNumber, "value", place, call, place, None)


class Rows(Case):
    def test_all_rows(self):
        for web in (BENT, Web(((),)), Web(((1,), (0, 1))), Web(((1, 2), (), (0,)))):
            for place in range(len(web)):
                for row in all_rows(len(web)):
                    rows = list(web.rows)
                    rows[place] = row
                    self.assertSame(web.with_row(place, row).rows, tuple(rows))

    def test_largest(self):
        self.assertSame(FULL.with_row(255, ()).rows, (ALL,) * 255 + ((),))
        self.assertSame(FULL.with_row(0, (255,)).rows, ((255,),) + (ALL,) * 255)

    def test_wrong_places(self):
        for place in NO_PLACES:
            self.assertRefused(InvalidNumber, "value", place, FOUR.with_row, place, (0,))
            self.assertRefused(InvalidNumber, "value", place, FOUR.with_row, place, None)

    def test_wrong_rows(self):
        wrong = (0, 1, (4,), (0, 4), (-1, 0), (1, 0), (0, 0), (0, 2, 1), (0, True), (False, 1), (0, LONG), (-LONG,), (0, "1"), [0, 1], (0, [1]))
        for row in without(NO_COUNTS, (), (0,), (1, 2), (0, 1, 2)) + wrong:
            with self.subTest(row=row):
                self.assertRaisesJust(InvalidOperation, FOUR.with_row, 1, row)
        self.assertRaisesJust(InvalidOperation, FULL.with_row, 0, ALL + (256,))


class Parts(Case):
    def test_all_parts(self):
        for web in small_webs()[:80]:
            for places in all_rows(len(web))[1:]:
                ties = [(places.index(one), places.index(other)) for one, other in web.ties if one in places and other in places]
                part = web.part(places)
                self.assertIs(part.__class__, Web)
                self.assertEqual(len(part), len(places))
                self.assertSame(part.ties, tuple(sorted(ties)))

    def test_some(self):
        self.assertEqual(NINE.part((4, 5, 7, 8)), FOUR)
        self.assertSame(BENT.part((1, 3)).rows, ((1,), (0, 1)))
        self.assertSame(FULL.part((255,)).rows, ((0,),))
        self.assertEqual(FULL.part(ALL), FULL)

    def test_wrong(self):
        wrong = (0, 1, (), (4,), (0, 4), (-1, 0), (1, 0), (0, 0), (0, 2, 1), (0, True), (False,), (0, LONG), (-LONG,), (0, "1"), [0, 1], (0, [1]))
        for places in without(NO_COUNTS, (0,), (1, 2), (0, 1, 2)) + wrong:
            with self.subTest(places=places):
                self.assertRaisesJust(InvalidOperation, FOUR.part, places)


if __name__ == "__main__":
    unittest.main()
