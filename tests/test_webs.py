"""Webs, their properties and operators: points 0.2 and 0.7, and stage 2."""

import unittest

from onebetween.errors import InvalidNumber, InvalidWeb, WebError
from onebetween.webs import webs
from onebetween.webs.webs import Web
from tests.cases import Case
from tests.some_webs import ALL, FULL, small_webs
from tests.wrong_values import BENT, FOUR, LONG, LONG_INTEGERS, NINE, NO_COUNTS, without

class Making(Case):
    def test_constant(self):
        self.assertSame(webs.MAX_PLACES, 256)

    def test_rows(self):
        for web in small_webs():
            self.assertSame(Web(web.rows).rows, web.rows)
        self.assertSame(Web(((1,), ())).rows, ((1,), ()))
        self.assertSame(Web(((),)).rows, ((),))

    def test_sizes(self):
        self.assertEqual(len(Web(((),) * 255)), 255)
        self.assertEqual(len(Web(((),) * 256)), 256)
        for many in (257, 258, 1000):
            self.assertRaisesJust(InvalidWeb, Web, ((),) * many)
        self.assertRaisesJust(InvalidWeb, Web, ())
        self.assertRaisesJust(InvalidWeb, Web, (tuple(range(257)),) * 257)

    def test_last_places(self):
        for many in (1, 2, 3, 255, 256):
            rest = ((),) * (many - 1)
            self.assertSame(Web(((many - 1,),) + rest)[0], (many - 1,))
            self.assertRaisesJust(InvalidWeb, Web, ((many,),) + rest)
            self.assertRaisesJust(InvalidWeb, Web, rest + ((many,),))
            self.assertRaisesJust(InvalidWeb, Web, rest + ((-1,),))

    def test_wrong(self):
        for value in without(NO_COUNTS, ((0, 1), (0, 1))) + (0, 1, 2, LONG):
            with self.subTest(value=value):
                self.assertRaisesJust(InvalidWeb, Web, value)

    def test_wrong_rows(self):
        for row in without(NO_COUNTS, (), (0,), (1, 2), (0, 1, 2)) + (0, 1, 2, [0, 1], (1, 0), (0, 0), (0, 2, 1), (0, 2, 2)):
            with self.subTest(row=row):
                self.assertRaisesJust(InvalidWeb, Web, (row, (), ()))
                self.assertRaisesJust(InvalidWeb, Web, ((), (), row))

    def test_wrong_places(self):
        for place in NO_COUNTS + (3, 4, 256):
            with self.subTest(place=place):
                self.assertRaisesJust(InvalidWeb, Web, ((place,), (), ()))
                self.assertRaisesJust(InvalidWeb, Web, ((), (0, place), ()))

    def test_refused_values_stay_as_they_are(self):
        values = list(NO_COUNTS)
        before = repr(values)
        for value in values:
            for call in (Web, Web.from_lines, lambda rows: Web((rows, (), ())), lambda lines: Web.from_lines(("0 to 0", lines)),
                         FOUR.renamed, FOUR.part, lambda row: FOUR.with_row(0, row)):
                try:
                    call(value)
                except (WebError, InvalidNumber):
                    pass
        self.assertEqual(repr(values), before)
        self.assertSame(FOUR.rows, ((0, 1), (2, 3), (0, 1), (2, 3)))

    def test_lists_are_not_webs(self):
        self.assertRaisesJust(InvalidWeb, Web, [(0,), (1,)])
        self.assertRaisesJust(InvalidWeb, Web, ([0], [1]))
        self.assertRaisesJust(InvalidWeb, Web, {0: (0,), 1: (1,)})


class Properties(Case):
    def test_columns_and_ties(self):
        for web in small_webs():
            places = range(len(web.rows))
            ties = [(one, other) for one in places for other in places if other in web.rows[one]]
            self.assertSame(web.ties, tuple(sorted(ties)))
            columns = tuple(tuple(one for one in places if (one, place) in ties) for place in places)
            self.assertSame(web.columns, columns)
            self.assertSame(web.loops, tuple(place for place in places if (place, place) in ties))

    def test_degree(self):
        for web in small_webs():
            sizes = {len(row) for row in web.rows} | {len(column) for column in web.columns}
            self.assertSame(web.degree, min(sizes) if len(sizes) == 1 else None)
        self.assertSame([FOUR.degree, NINE.degree, BENT.degree, FULL.degree, Web(((),)).degree], [2, 3, 2, 256, 0])
        # Equal rows do not make equal columns.
        self.assertSame(Web(((0,), (0,))).degree, None)
        self.assertSame(Web(((0, 1), ())).degree, None)

    def test_lines(self):
        self.assertSame(BENT.lines, ("0 to 0 1", "1 to 2 3", "2 to 0 2", "3 to 1 3"))
        self.assertSame(Web(((), (), (0, 1, 2))).lines, ("0 to nothing", "1 to nothing", "2 to 0 1 2"))
        self.assertSame(Web(((),) * 255 + ((0, 10, 255),)).lines[255], "255 to 0 10 255")

    def test_largest(self):
        self.assertSame(FULL.rows, (ALL,) * 256)
        self.assertSame(FULL.columns, (ALL,) * 256)
        self.assertSame(FULL.loops, ALL)
        self.assertEqual(len(FULL.ties), 65536)
        self.assertSame(FULL.ties[-1], (255, 255))
        self.assertSame(FULL.lines[7], "7 to " + " ".join(str(place) for place in ALL))
        self.assertEqual(str(FULL), "web of 256 places, 65536 ties")

    def test_webs_never_change(self):
        web = Web(((0, 1), (1,)))
        for name in ("rows", "columns", "ties", "loops", "lines", "degree"):
            with self.assertRaises(AttributeError):
                setattr(web, name, ())
        with self.assertRaises(TypeError):
            web[0] = ()
        with self.assertRaises(TypeError):
            del web[0]
        before = web.rows
        for call in (web.turned, lambda: web.renamed((1, 0)), lambda: web.with_tie(1, 0), lambda: web.without_tie(0, 0),
                     lambda: web.with_row(0, ()), lambda: web.part((0,))):
            self.assertIsNot(call(), web)
            self.assertSame(web.rows, before)
            self.assertSame(call().rows, call().rows)

    def test_all_is_defined_in_the_class(self):
        names = ("from_lines", "rows", "columns", "ties", "loops", "lines", "degree", "turned", "renamed", "with_tie",
                 "without_tie", "with_row", "part", "__getitem__", "__contains__", "__len__", "__iter__", "__eq__", "__str__")
        for name in names:
            self.assertIn(name, vars(Web))
        self.assertIsInstance(vars(Web)["from_lines"], classmethod)
        self.assertEqual(Web.__module__, "onebetween.webs.webs")


class Operators(Case):
    def test_rows_of_places(self):
        for web in small_webs():
            self.assertSame(tuple(web[place] for place in range(len(web))), web.rows)

    def test_no_rows(self):
        for place in NO_COUNTS + (4, 5, 255, 256, LONG):
            self.assertRefused(InvalidNumber, "value", place, FOUR.__getitem__, place)
        for place in (slice(0, 2), 0.0, b"0", Ellipsis):
            self.assertRefused(InvalidNumber, "value", place, lambda value: FOUR[value], place)

    def test_ties(self):
        for web in (FOUR, BENT, NINE, Web(((),)), Web(((1,), ()))):
            for one in range(-2, 11):
                for other in range(-2, 11):
                    tie = 0 <= one < len(web.rows) and other in web.rows[one]
                    self.assertIs((one, other) in web, tie)
                    self.assertIs((one, other) not in web, not tie)

    def test_no_ties(self):
        for value in NO_COUNTS + LONG_INTEGERS + (0, 1, 2):
            if value != (1, 2):
                self.assertIs(value in FOUR, False)
        for value in ([1, 2], (1, 2, 3), (1,), (1, 2, 2), "12", {1: 2}, ((1, 2),), (0, LONG), (LONG, 0), (-LONG, 1)):
            self.assertIs(value in FOUR, False)
        for value in NO_COUNTS:
            self.assertIs((value, 0) in FOUR, False)
            self.assertIs((0, value) in FOUR, False)

    def test_true_is_no_place(self):
        self.assertIs((1, 2) in FOUR, True)
        self.assertIs((0, 0) in FOUR, True)
        for value in ((True, 2), (False, 0), (0, False), (0, True), (False, False), (1.0, 2)):
            self.assertIs(value in FOUR, False)

    def test_rows_are_not_in_a_web(self):
        self.assertIs((0, 1) in Web(((1,), (0,))), True)
        self.assertIs((0, 1) in Web(((0,), (0, 1))), False)

    def test_length_and_rows(self):
        for web in small_webs() + [FULL]:
            self.assertSame(len(web), len(web.rows))
            self.assertSame(list(web), list(web.rows))
            self.assertSame(tuple(iter(web)), web.rows)
        self.assertTrue(bool(Web(((),))))

    def test_equality(self):
        found = small_webs()
        for one in found[:40]:
            for other in found:
                self.assertIs(one == other, one.rows == other.rows)
                self.assertIs(one != other, one.rows != other.rows)
        self.assertTrue(FOUR == Web(FOUR.rows))
        self.assertFalse(FOUR != Web(FOUR.rows))

    def test_equality_with_others(self):
        for value in NO_COUNTS + LONG_INTEGERS + (0, FOUR.rows, list(FOUR.rows), FOUR.lines, str(FOUR), Web, object()):
            if value is not FOUR:
                self.assertIs(FOUR == value, False)
                self.assertIs(value == FOUR, False)
                self.assertIs(FOUR != value, True)
                self.assertIs(value != FOUR, True)

    def test_texts(self):
        self.assertSame(str(Web(((),))), "web of 1 places, 0 ties")
        self.assertSame(str(Web(((0,),))), "web of 1 places, 1 ties")
        self.assertSame(str(NINE), "web of 9 places, 27 ties")
        self.assertSame(f"{BENT}", "web of 4 places, 8 ties")


if __name__ == "__main__":
    unittest.main()
