"""Roots of lone webs that are line webs, and the words of those that are word webs: stage 11."""

import itertools
import unittest

from onebetween.errors import InvalidOperation, NotLone
from onebetween.lone.papers import depth_of
from onebetween.lone.words import (
    clashing_pair, is_line, is_root, is_word_names, is_word_paper, plain_root, root_of, word_names, word_paper,
)
from onebetween.webs.making import all_ties, both, line_web, product, word_web
from onebetween.webs.webs import Web
from tests.cases import Case
from tests.some_webs import DEEP, FULL, LOOP
from tests.wrong_values import ANY_KIND, BENT, FOUR, LONG, NINE, number_rule, web_rule

FROM_ONE = number_rule(1, 1, 8)
FROM_TWO = number_rule(1, 2, 8)
DEEPER = line_web(NINE)
DEEPEST = line_web(DEEPER)
# Lone of depth 3, but no line web.
ODD = Web(((0, 1), (2, 3), (4, 7), (5, 6), (0, 1), (2, 3), (4, 5), (6, 7)))
MIXED = FOUR.renamed((2, 0, 3, 1))
CHANGED = DEEP.renamed((3, 7, 1, 0, 6, 2, 5, 4))
LONE = ((FOUR, 2), (NINE, 2), (DEEP, 3), (MIXED, 2), (CHANGED, 3), (DEEPER, 3), (DEEPEST, 4), (LOOP, 2), (LOOP, 8), (word_web(3, 2), 2),
        (NINE.turned(), 2), (DEEPER.turned(), 3), (product(FOUR, FOUR), 2), (product(FOUR, NINE), 2), (word_web(2, 4).turned(), 4),
        (ODD, 3), (line_web(ODD), 4))
NOT_LONE = ((BENT, 2), (FOUR, 3), (NINE, 4), (FULL, 2), (all_ties(2), 2), (word_web(2, 8), 7), (Web(((),)), 2))


def clashes(web):
    """Return all ascending pairs of places whose rows share a place but are not equal."""
    pairs = itertools.combinations(range(len(web)), 2)
    return [(one, other) for one, other in pairs if web.rows[one] != web.rows[other] and set(web.rows[one]) & set(web.rows[other])]


def shows_root(web, root, ties):
    """Judge a root and its ties by a look at all pairs of places."""
    places = range(len(web))
    if len(ties) != len(web) or sorted(ties) != sorted(root.ties):
        return False
    return all((ties[x][1] == ties[y][0]) == (y in web.rows[x]) for x in places for y in places)


def shows_names(web, depth, names):
    """Judge word names by a look at all pairs of places."""
    places = range(len(web))
    degree = len(web.rows[0])
    if len(names) != len(web) or len(set(names)) != len(names):
        return False
    if not all(len(word) == depth and all(letter in range(degree) for letter in word) for word in names):
        return False
    return all((names[x][1:] == names[y][:-1]) == (y in web.rows[x]) for x in places for y in places)


class Lines(Case):
    def test_clashes(self):
        for web, depth in LONE:
            pairs = clashes(web)
            self.assertIs(is_line(web, depth), not pairs)
            pair = clashing_pair(web, depth)
            if pairs:
                self.assertIn(pair, pairs)
                self.assertSame([pair.__class__, len(pair)], [tuple, 2])
            else:
                self.assertIs(pair, None)

    def test_which(self):
        self.assertSame([is_line(web, depth) for web, depth in LONE],
                        [True, False, True, True, True, True, True, True, True, True, False, True, True, False, True, False, True])

    def test_wrong(self):
        for call in (is_line, clashing_pair, root_of, plain_root):
            for web in (FOUR, NINE, BENT):
                self.assertRefusals(call, (web, 2), web_rule(), FROM_TWO)
            for web, depth in NOT_LONE:
                self.assertRefused(NotLone, "reason", depth, call, web, depth)


class Roots(Case):
    def test_told(self):
        for web, depth in LONE:
            if clashes(web):
                for call in (root_of, plain_root):
                    self.assertRaisesJust(InvalidOperation, call, web, depth)
                continue
            for call in (root_of, plain_root):
                told = call(web, depth)
                self.assertSame([told.__class__, len(told), told[1].__class__], [tuple, 2, tuple])
                root, ties = told
                self.assertTrue(shows_root(web, root, ties))
                self.assertIs(is_root(web, depth, told), True)
                self.assertTrue(all(root.rows))
                self.assertEqual(depth_of(root), 1 if len(web) == 1 else depth - 1)

    def test_plain(self):
        for web, depth in LONE:
            if clashes(web):
                continue
            root, ties = plain_root(web, depth)
            rows = list(dict.fromkeys(web.rows))
            self.assertEqual(len(root), len(rows))
            wanted = tuple(([place in row for row in rows].index(True), rows.index(web.rows[place])) for place in range(len(web)))
            self.assertSame(ties, wanted)

    def test_line_webs_have_their_web_as_root(self):
        for web, depth in ((FOUR, 2), (NINE, 2), (MIXED, 2), (CHANGED, 3), (all_ties(16), 1), (all_ties(2), 1)):
            line = line_web(web)
            self.assertIs(is_root(line, depth + 1, (web, web.ties)), True)
            self.assertIs(is_line(line, depth + 1), True)
        self.assertTrue(plain_root(line_web(NINE), 3)[0] != NINE)
        self.assertTrue(plain_root(word_web(2, 8), 8)[0] == word_web(2, 7))
        self.assertTrue(plain_root(word_web(16, 2), 2)[0] == all_ties(16))

    def test_other_roots(self):
        root, ties = plain_root(DEEP, 3)
        for names in itertools.permutations(range(4)):
            other = tuple((names[x], names[y]) for x, y in ties)
            self.assertIs(is_root(DEEP, 3, (root.renamed(names), other)), True)
            self.assertIs(is_root(DEEP, 3, (root, other)), shows_root(DEEP, root, other))
        # Further places without ties are let, places with ties are not.
        self.assertIs(is_root(DEEP, 3, (both(root, Web(((), ()))), ties)), True)
        self.assertIs(is_root(DEEP, 3, (both(root, LOOP), ties)), False)
        self.assertIs(is_root(DEEP, 3, (both(root, LOOP), ties + ((4, 4),))), False)
        late = tuple((x + 252, y + 252) for x, y in ties)
        self.assertIs(is_root(DEEP, 3, (both(Web(((),) * 252), root), late)), True)

    def test_one_tie_changed(self):
        for web, depth in ((FOUR, 2), (DEEP, 3), (LOOP, 5), (NINE, 2)):
            if web is NINE:
                root, ties = all_ties(3), all_ties(3).ties
            else:
                root, ties = plain_root(web, depth)
            for place in range(len(web)):
                for tie in itertools.product(range(-1, len(root) + 1), repeat=2):
                    value = ties[:place] + (tie,) + ties[place + 1:]
                    self.assertIs(is_root(web, depth, (root, value)), shows_root(web, root, value))
                for tie in (0, None, "00", (0,), (0, 0, 0), [0, 0], (False, 0), (0, True), (0, LONG), FOUR, (), ("0", "0")):
                    value = ties[:place] + (tie,) + ties[place + 1:]
                    self.assertIs(is_root(web, depth, (root, value)), False)
            for one, other in itertools.product(range(len(root)), repeat=2):
                call = root.without_tie if (one, other) in root else root.with_tie
                self.assertIs(is_root(web, depth, (call(one, other), ties)), False)

    def test_all_orders_of_ties(self):
        root, ties = plain_root(FOUR, 2)
        found = [value for value in itertools.permutations(ties) if is_root(FOUR, 2, (root, value))]
        self.assertEqual(found, [value for value in itertools.permutations(ties) if shows_root(FOUR, root, value)])
        self.assertEqual(len(found), 2)

    def test_other_values(self):
        root, ties = plain_root(FOUR, 2)
        for value in ((root,), (ties, root), (root, ties, ties), [root, ties], (root, list(ties)), (root.rows, ties), (root, ties[:3]),
                      (root, ties + ties[:1]), (root, ()), (root, None), (None, ties), root, ties, (root, ties[::-1][:2] + ties[:2])):
            self.assertIs(is_root(FOUR, 2, value), False)
        for web, depth in ((FOUR, 2), (NINE, 2), (LOOP, 8)):
            self.assertJudges(is_root, (web, depth), ANY_KIND)
            for value in ANY_KIND:
                self.assertIs(is_root(web, depth, (root, value)), False)

    def test_wrong(self):
        for web in (FOUR, NINE, BENT):
            self.assertRefusals(is_root, (web, 2, None), web_rule(), FROM_TWO)
        for web, depth in NOT_LONE:
            self.assertRefused(NotLone, "reason", depth, is_root, web, depth, None)


def exchanged(names, order):
    return tuple(tuple(order[letter] for letter in word) for word in names)


WORD_WEBS = ((FOUR, 2), (MIXED, 2), (DEEP, 3), (CHANGED, 3), (word_web(3, 2), 2), (word_web(2, 4).turned(), 4), (product(FOUR, FOUR), 2),
             (all_ties(3), 1), (all_ties(1), 1), (LOOP, 8), (all_ties(2), 1))
NO_WORD_WEBS = ((NINE, 2, 0), (DEEPER, 3, 1), (DEEPEST, 4, 2), (product(NINE, FOUR), 2, 0), (NINE.turned(), 2, 0), (DEEPER.turned(), 3, 1),
                (ODD, 3, 0), (ODD.turned(), 3, 0), (ODD.renamed((0, 1, 2, 4, 5, 6, 3, 7)), 3, 0), (line_web(ODD), 4, 1), (line_web(ODD, times=2), 5, 2))


class Names(Case):
    def test_told(self):
        for web, depth in WORD_WEBS:
            names = word_names(web, depth)
            self.assertTrue(shows_names(web, depth, names))
            self.assertIs(is_word_names(web, depth, names), True)
            self.assertSame(names, tuple(tuple(int(letter) for letter in word) for word in names))
            paper = word_paper(web, depth)
            self.assertEqual((paper[0], len(paper)), ("words", 2))
            self.assertTrue(shows_names(web, depth, paper[1]))
            self.assertIs(is_word_paper(web, depth, paper), True)
            # Exchanging letters leads to other names.
            for order in itertools.permutations(range(len(web.rows[0]))):
                self.assertIs(is_word_names(web, depth, exchanged(names, order)), True)
                self.assertIs(is_word_paper(web, depth, ("words", exchanged(names, order))), True)
        for web, depth, _ in NO_WORD_WEBS:
            self.assertIs(word_names(web, depth), None)

    def test_great(self):
        for web, depth in ((word_web(2, 8), 8), (word_web(16, 2), 2), (FULL, 1), (word_web(4, 4), 4), (word_web(6, 3), 3)):
            names = word_names(web, depth)
            self.assertIs(is_word_names(web, depth, names), True)
            self.assertIs(is_word_paper(web, depth, word_paper(web, depth)), True)
            self.assertEqual(len(set(names)), len(web))
            self.assertIs(is_word_names(web, depth, names[1:] + names[:1]), depth == 1)

    def test_all_names(self):
        words = list(itertools.product(range(2), repeat=2))
        for web in (FOUR, MIXED):
            found = [names for names in itertools.permutations(words) if is_word_names(web, 2, names)]
            self.assertEqual(found, [names for names in itertools.permutations(words) if shows_names(web, 2, names)])
            self.assertEqual(len(found), 2)
        for names in itertools.product([(0,), (1,), (2,), (3,), (-1,)], repeat=3):
            self.assertIs(is_word_names(all_ties(3), 1, names), shows_names(all_ties(3), 1, names))

    def test_one_letter_changed(self):
        for web, depth in ((FOUR, 2), (DEEP, 3), (word_web(3, 2), 2), (all_ties(3), 1), (LOOP, 4), (NINE, 2)):
            names = word_names(web if web is not NINE else word_web(3, 2), depth)
            for place, at in itertools.product(range(len(web)), range(depth)):
                for letter in range(-1, len(web.rows[0]) + 1):
                    word = names[place][:at] + (letter,) + names[place][at + 1:]
                    value = names[:place] + (word,) + names[place + 1:]
                    wanted = shows_names(web, depth, value)
                    self.assertIs(is_word_names(web, depth, value), wanted)
                    self.assertIs(is_word_paper(web, depth, ("words", value)), wanted)
                for letter in (True, False, None, "0", (0,), LONG, [0], FOUR):
                    word = names[place][:at] + (letter,) + names[place][at + 1:]
                    self.assertIs(is_word_names(web, depth, names[:place] + (word,) + names[place + 1:]), False)

    def test_other_values(self):
        names = word_names(FOUR, 2)
        for value in (names[:3], names + names[:1], list(names), names[:3] + (list(names[3]),), names[:3] + ((1, 1, 1),), names[:3] + (3,),
                      names[:3] + ((1,),), names[:3] + (names[2],), (names,), names[:3] + ("11",), ("00", "01", "10", "11")):
            self.assertIs(is_word_names(FOUR, 2, value), False)
            self.assertIs(is_word_paper(FOUR, 2, ("words", value)), False)
        for value in (("Words", names), ("clash", names), (names, names), ("words", names, names), ("words", names, 0, 1), ("words",)):
            self.assertIs(is_word_paper(FOUR, 2, value), False)
        for depth, many in itertools.product(range(1, 9), range(10)):
            self.assertIs(is_word_names(LOOP, depth, ((0,) * many,)), many == depth)
        for web, depth in ((FOUR, 2), (NINE, 2), (all_ties(2), 1)):
            self.assertJudges(is_word_names, (web, depth), ANY_KIND)

    def test_wrong(self):
        for call, more in ((word_names, ()), (word_paper, ()), (is_word_names, (None,)), (is_word_paper, (None,))):
            for web in (FOUR, BENT):
                self.assertRefusals(call, (web, 2) + more, web_rule(), FROM_ONE)
            for web, depth in NOT_LONE + ((FOUR, 1), (DEEP, 1)):
                self.assertRefused(NotLone, "reason", depth, call, web, depth, *more)


class Papers(Case):
    def test_clashes(self):
        for web, depth, roots in NO_WORD_WEBS:
            made = web
            for number in range(roots):
                made = plain_root(made, depth - number)[0]
            pairs = clashes(made)
            paper = word_paper(web, depth)
            self.assertEqual((paper.__class__, paper[:2]), (tuple, ("clash", roots)))
            self.assertSame(paper[1], roots)
            self.assertIn(paper[2:], pairs)
            self.assertIs(is_word_paper(web, depth, paper), True)
            for many in range(-1, 5):
                for one, other in itertools.product(range(-1, 12), repeat=2):
                    wanted = many == roots and (one, other) in pairs
                    self.assertIs(is_word_paper(web, depth, ("clash", many, one, other)), wanted)

    def test_no_clashes(self):
        for web, depth in WORD_WEBS:
            for many in (0, 1, 2, 7, 8, 9, 10 ** 199):
                for one, other in ((0, 1), (0, 2), (1, 3), (0, 0)):
                    self.assertIs(is_word_paper(web, depth, ("clash", many, one, other)), False)

    def test_other_values(self):
        pair = clashing_pair(NINE, 2)
        paper = ("clash", 0) + pair
        self.assertIs(is_word_paper(NINE, 2, paper), True)
        wrong = [list(paper), paper[:3], paper + (0,), ("clash", False) + pair, ("clash", None) + pair, ("clash", "0") + pair,
                 ("clash", LONG) + pair, ("clash", -LONG) + pair, ("Clash", 0) + pair, ("clash", 0, pair), ("clash",), ("words", pair),
                 (FOUR, 0) + pair, ("clash", 0) + pair[::-1], ("clash", 0, 0, True), ("clash", 0, True, 4), ("words",)]
        for value in wrong:
            self.assertIs(is_word_paper(NINE, 2, value), False)
        for web, depth in ((NINE, 2), (FOUR, 2), (all_ties(2), 1)):
            self.assertJudges(is_word_paper, (web, depth), ANY_KIND)
            for value in ANY_KIND:
                if value.__class__ is int:
                    continue
                for paper in (("clash", 0, 1, value), ("clash", 0, value, 4), ("clash", value, 1, 4), ("words", value), (value, 0, 1, 4)):
                    self.assertIs(is_word_paper(web, depth, paper), False)
        self.assertIs(is_word_paper(NINE, 2, ("clash", 0, 1, 4)), True)

    def test_papers_of_one_form_exist(self):
        for web, depth in LONE:
            self.assertEqual(word_paper(web, depth)[0] == "words", word_names(web, depth) is not None)


if __name__ == "__main__":
    unittest.main()
