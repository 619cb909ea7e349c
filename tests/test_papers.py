"""Whether webs are lone, and papers that show it: stage 5."""

import itertools
import unittest

from onebetween.errors import InvalidNumber, InvalidWeb, TooMany
from onebetween.lone.papers import (
    MAX_DEPTH, MAX_PAPER, depth_of, flaws, is_lone, is_lone_paper, lone_paper, missing_pair, two_walks,
)
from onebetween.webs.making import all_ties, line_web, product, word_web
from onebetween.webs.webs import Web
from tests.cases import Case
from tests.some_webs import BARE, DEEP, DOT, FULL, LOOP, RING_65, all_walks, counted, is_lone_by_force, small_webs
from tests.wrong_values import ANY_KIND, BENT, FOUR, LONG, NINE, number_rule, web_rule

DEPTH = number_rule(1, 1, 8)
# A web with as many places and ties as a lone one, and a loop at each of two places, which is not lone.
FALSE = Web(((0, 1), (1, 2), (2, 3), (0, 3)))


def is_walk_by_force(web, walk, depth):
    if walk.__class__ is not tuple or len(walk) != depth + 1 or walk[0] not in range(len(web)):
        return False
    return walk in all_walks(web, walk[0], depth)


def some_webs():
    return small_webs() + [LOOP, DOT, BARE, FALSE, DEEP, all_ties(4), Web(((1, 2), (0, 3), (0, 3), (1, 2)))]


class Lone(Case):
    def test_limits(self):
        self.assertEqual((MAX_DEPTH, MAX_PAPER), (8, 64))

    def test_by_force(self):
        for web in some_webs():
            wanted = [depth for depth in range(1, 5) if is_lone_by_force(web, depth)]
            found = [depth for depth in range(1, 9) if is_lone(web, depth)]
            self.assertEqual([depth for depth in found if depth < 5], wanted)
            self.assertSame(depth_of(web), found[0] if found else None)
            for depth in range(1, 9):
                self.assertIn(is_lone(web, depth), (True, False))

    def test_all_webs_of_four_places(self):
        # Rows of two places are all that can be lone of depth 2 with four places.
        rows = list(itertools.combinations(range(4), 2))
        lone = 0
        for some in itertools.product(rows, repeat=4):
            web = Web(some)
            wanted = is_lone_by_force(web, 2)
            lone += wanted
            self.assertIs(is_lone(web, 2), wanted)
            self.assertSame(depth_of(web), 2 if wanted else None)
            self.assertEqual(flaws(web, 2) == (0, 0), wanted)
        # All of them are the word web, which has two renamings to itself.
        self.assertEqual(lone, 12)

    def test_one_place(self):
        for depth in range(1, 9):
            self.assertIs(is_lone(LOOP, depth), True)
            self.assertIs(is_lone(DOT, depth), False)
            self.assertIs(is_lone(BARE, depth), False)
        self.assertSame([depth_of(LOOP), depth_of(DOT), depth_of(BARE)], [1, None, None])

    def test_great_webs(self):
        for web, depth in ((FULL, 1), (word_web(16, 2), 2), (word_web(6, 3), 3), (word_web(4, 4), 4), (word_web(3, 5), 5),
                           (word_web(2, 6), 6), (word_web(2, 7), 7), (word_web(2, 8), 8), (line_web(NINE), 3),
                           (product(NINE, NINE), 2), (product(FOUR, NINE), 2)):
            self.assertSame(depth_of(web), depth)
            self.assertSame(depth_of(web.turned()), depth)
            for other in range(1, 9):
                self.assertIs(is_lone(web, other), other == depth)
            self.assertSame(flaws(web, depth), (0, 0))
            self.assertIs(two_walks(web, depth), None)
            self.assertIs(missing_pair(web, depth), None)
            one, other = web.ties[-1]
            spoilt = web.without_tie(one, other)
            self.assertIs(depth_of(spoilt), None)
            for missing in [after for after in range(len(web)) if after not in web.rows[3]][:1]:
                self.assertIs(depth_of(web.with_tie(3, missing)), None)
            self.assertIs(is_lone(spoilt, depth), False)

    def test_right_sizes_are_not_enough(self):
        # Four places, two ties from and to each place, and two or four loops.
        self.assertSame([FALSE.degree, depth_of(FALSE), flaws(FALSE, 2)], [2, None, (4, 4)])
        both = Web(((0, 1), (0, 1), (2, 3), (2, 3)))
        self.assertSame([both.degree, depth_of(both)], [2, None])

    def test_wrong(self):
        for call in (is_lone, flaws, two_walks, missing_pair):
            self.assertRefusals(call, (FOUR, 2), web_rule(), DEPTH)
            self.assertRefusals(call, (RING_65, 2), DEPTH)
        self.assertRefusals(depth_of, (FOUR,), web_rule())


class Flaws(Case):
    def test_by_force(self):
        for web in some_webs():
            for depth in (1, 2, 3):
                numbers = counted(web, depth)
                none = [pair for pair, many in numbers.items() if many == 0]
                more = [pair for pair, many in numbers.items() if many > 1]
                self.assertSame(flaws(web, depth), (len(none), len(more)))
                pair = missing_pair(web, depth)
                walks = two_walks(web, depth)
                self.assertEqual((pair is None, walks is None), (not none, not more))
                if none:
                    self.assertIn(pair, none)
                    self.assertSame([pair.__class__, len(pair)], [tuple, 2])
                if more:
                    one, other = walks
                    self.assertIs(walks.__class__, tuple)
                    self.assertTrue(is_walk_by_force(web, one, depth) and is_walk_by_force(web, other, depth))
                    self.assertNotEqual(one, other)
                    self.assertEqual((one[0], one[-1]), (other[0], other[-1]))

    def test_great(self):
        self.assertSame(flaws(FULL, 1), (0, 0))
        for depth in range(2, 9):
            self.assertSame(flaws(FULL, depth), (0, 65536))
            self.assertIs(missing_pair(FULL, depth), None)
            one, other = two_walks(FULL, depth)
            self.assertEqual(len(one), depth + 1)
            self.assertNotEqual(one, other)
        for depth in range(1, 9):
            self.assertSame(flaws(RING_65, depth), (65 * 64, 0))
            one, other = missing_pair(RING_65, depth)
            self.assertNotEqual((one + depth) % 65, other)
        self.assertSame(flaws(word_web(2, 8), 7), (65536 - 256 * 128, 0))
        self.assertSame(flaws(word_web(2, 7), 8), (0, 128 * 128))
        self.assertSame(flaws(BARE, 8), (9, 0))
        # All walks meet only at their ends here: they part at the first step.
        fan = Web((tuple(range(1, 255)),) + ((255,),) * 254 + ((),))
        self.assertSame(flaws(fan, 2), (65535, 1))
        one, other = two_walks(fan, 2)
        self.assertEqual((one[0], other[0], one[2], other[2]), (0, 0, 255, 255))
        self.assertNotEqual(one[1], other[1])

    def test_walks_part_late(self):
        late = Web(((1,), (2,), (3,), (4,), (5,), (6, 7), (8,), (8,), ()))
        one, other = two_walks(late, 7)
        self.assertEqual(sorted((one, other)), [(0, 1, 2, 3, 4, 5, 6, 8), (0, 1, 2, 3, 4, 5, 7, 8)])
        self.assertIs(two_walks(late, 8), None)
        early = late.turned()
        one, other = two_walks(early, 7)
        self.assertEqual(sorted((one, other)), [(8, 6, 5, 4, 3, 2, 1, 0), (8, 7, 5, 4, 3, 2, 1, 0)])


def shows(web, depth, value):
    """Judge a paper by a look at all walks."""
    places = range(len(web))
    if not isinstance(value, tuple) or not value:
        return False
    if value[0] == "lone":
        wanted = [[[walk for walk in all_walks(web, one, depth) if walk[-1] == other] for other in places] for one in places]
        right = len(set(map(len, web.rows))) == 1 and len(web.rows[0]) ** depth == len(web)
        return right and len(value) == 2 and len(value[1]) == len(web) and all(
            len(row) == len(web) and all(row[other] in wanted[one][other] for other in places) for one, row in enumerate(value[1]))
    if value[0] == "two":
        _, one, other = value
        return (is_walk_by_force(web, one, depth) and is_walk_by_force(web, other, depth)
                and one != other and one[0] == other[0] and one[-1] == other[-1])
    _, one, other, layers = value
    if one not in places or other not in places or len(layers) != depth + 1:
        return False
    if not all(list(layer) == sorted(set(layer)) and set(layer) <= set(places) for layer in layers):
        return False
    closed = all(set(web.rows[place]) <= set(after) for layer, after in zip(layers, layers[1:]) for place in layer)
    return closed and one in layers[0] and other not in layers[depth]


def changed(value, path, other):
    """Return a nested tuple with another item at a path of indices."""
    if not path:
        return other
    at = path[0]
    return value[:at] + (changed(value[at], path[1:], other),) + value[at + 1:]


def paths(value, ahead=()):
    """Return the paths to all integers in a nested tuple."""
    if isinstance(value, tuple):
        return [path for at, item in enumerate(value) for path in paths(item, ahead + (at,))]
    return [ahead] if isinstance(value, int) else []


class Papers(Case):
    def test_told_papers(self):
        for web in some_webs():
            for depth in (1, 2, 3, 4):
                paper = lone_paper(web, depth)
                self.assertTrue(shows(web, depth, paper))
                self.assertIs(is_lone_paper(web, depth, paper), True)
                self.assertEqual(paper[0] == "lone", is_lone(web, depth))
                # A paper of one depth is none of another one.
                self.assertIs(is_lone_paper(web, depth + 1, paper), False)

    def test_one_place_changed(self):
        for web, depth in ((FOUR, 2), (FOUR, 1), (FOUR, 3), (BENT, 2), (all_ties(3), 1), (LOOP, 3), (DOT, 2),
                           (BARE, 2), (FALSE, 2), (Web(((1,), (0,))), 3), (Web(((0, 1), (1, 2), (2,))), 2)):
            paper = lone_paper(web, depth)
            for path in paths(paper):
                for place in range(-1, len(web) + 1):
                    value = changed(paper, path, place)
                    self.assertIs(is_lone_paper(web, depth, value), shows(web, depth, value))
                for other in (True, False, None, "0", (0,), 10 ** 200, [0], FOUR):
                    self.assertIs(is_lone_paper(web, depth, changed(paper, path, other)), False)

    def test_all_papers_of_two_walks(self):
        walks = [walk for place in range(4) for walk in all_walks(BENT, place, 2)] + [(0, 3, 1), (2, 0), (0, 0, 0, 0)]
        for one, other in itertools.product(walks, repeat=2):
            self.assertIs(is_lone_paper(BENT, 2, ("two", one, other)), shows(BENT, 2, ("two", one, other)))

    def test_all_papers_of_layers(self):
        web = Web(((1,), (1,), (0,)))
        layers = [tuple(place for place in range(3) if mask >> place & 1) for mask in range(8)]
        found = 0
        for one, other in itertools.product(range(3), repeat=2):
            for some in itertools.product(layers, repeat=3):
                value = ("none", one, other, some)
                found += shows(web, 2, value)
                self.assertIs(is_lone_paper(web, 2, value), shows(web, 2, value))
        self.assertGreater(found, 20)

    def test_layers_can_be_wider(self):
        self.assertIs(is_lone_paper(BARE, 1, ("none", 0, 0, ((0,), ()))), True)
        self.assertIs(is_lone_paper(BARE, 1, ("none", 0, 0, ((0, 1, 2), (1, 2)))), True)
        self.assertIs(is_lone_paper(BARE, 1, ("none", 0, 0, ((0, 2, 1), (1, 2)))), False)
        self.assertIs(is_lone_paper(BARE, 1, ("none", 0, 0, ((0, 0), ()))), False)
        self.assertIs(is_lone_paper(BARE, 1, ("none", 0, 0, ((1,), ()))), False)
        self.assertIs(is_lone_paper(BARE, 1, ("none", 0, 0, ((0,), (0,)))), False)
        self.assertIs(is_lone_paper(BARE, 1, ("none", 0, 0, ((0,), (), ()))), False)
        self.assertIs(is_lone_paper(BARE, 1, ("none", 0, 0, [(0,), ()])), False)
        self.assertIs(is_lone_paper(BARE, 1, ("none", 0, 0, ((0,), [1]))), False)
        self.assertIs(is_lone_paper(BARE, 1, ("none", 0, 3, ((0,), ()))), False)
        self.assertIs(is_lone_paper(BARE, 1, ("none", 0, 0)), False)

    def test_walks_need_the_right_size(self):
        # All walks are there, but with two places of unlike rows, or of too many ties.
        for web, depth in ((Web(((0, 1), (0,))), 2), (all_ties(2), 2), (all_ties(3), 3), (FOUR.with_tie(3, 1), 2), (FOUR.with_tie(0, 2), 2)):
            places = range(len(web))
            walks = tuple(tuple([walk for walk in all_walks(web, one, depth) if walk[-1] == other][0] for other in places)
                          for one in places)
            self.assertIs(is_lone_paper(web, depth, ("lone", walks)), False)
        self.assertIs(is_lone_paper(DOT, 1, ("lone", (((0, 0),),))), False)
        self.assertIs(is_lone_paper(LOOP, 1, ("lone", (((0, 0),),))), True)

    def test_other_forms(self):
        paper = lone_paper(FOUR, 2)
        walks = paper[1]
        for value in (paper[::-1], paper + (0,), ("lone",), ("Lone", walks), ("two", walks), (b"lone", walks), list(paper),
                      ("lone", list(walks)), ("lone", walks[:3]), ("lone", walks + walks[:1]), (("lone", walks),),
                      ("lone", walks[:3] + (list(walks[3]),)), ("lone", walks[:3] + (walks[3][:3],)), ("lone", walks[:3] + (3,)),
                      ("lone", walks[::-1]), (FOUR, walks), ("two", (0, 0, 0), (0, 0, 0)), ("two", (0, 0, 0)), ("two",),
                      ("none", 0, 0, ((0,), (0, 1), (0, 1, 2, 3))), ("none",), ("none", 0, 0, ()), ("none", 0, 0, 0), ("two", 0, 0)):
            self.assertIs(is_lone_paper(FOUR, 2, value), False)
        for web, depth in ((FOUR, 2), (BENT, 2), (BARE, 3), (LOOP, 8)):
            self.assertJudges(is_lone_paper, (web, depth), ANY_KIND)
            for kind in ("lone", "two", "none"):
                for value in ANY_KIND:
                    self.assertIs(is_lone_paper(web, depth, (kind, value)), False)
                    self.assertIs(is_lone_paper(web, depth, (kind, value, value)), False)
                    self.assertIs(is_lone_paper(web, depth, (kind, 0, 1, value)), False)
                    self.assertIs(is_lone_paper(web, depth, (value, 0, 1, ((0,), ()))), False)

    def test_other_words(self):
        two = ("two", (2, 0, 0), (2, 2, 0))
        none = ("none", 2, 3, ((2,), (0, 2), (0, 1, 2)))
        for paper in (two, none):
            self.assertIs(is_lone_paper(BENT, 2, paper), True)
            for word in ("lone", "two", "none", "", "None", None, 0, True, (), BENT):
                if word != paper[0]:
                    self.assertIs(is_lone_paper(BENT, 2, (word,) + paper[1:]), False)
            self.assertIs(is_lone_paper(BENT, 2, paper + paper[-1:]), False)

    def test_sizes(self):
        for web, depth in ((word_web(2, 6), 6), (word_web(4, 3), 3), (word_web(8, 2), 2), (all_ties(64), 1), (line_web(NINE), 3)):
            paper = lone_paper(web, depth)
            self.assertEqual(paper[0], "lone")
            self.assertIs(is_lone_paper(web, depth, paper), True)
            self.assertIs(is_lone_paper(web, depth, ("lone", paper[1][::-1])), len(web) == 1)
            for other in range(1, 9):
                if other != depth:
                    paper = lone_paper(web, other)
                    self.assertIn(paper[0], ("two", "none"))
                    self.assertIs(is_lone_paper(web, other, paper), True)
        for web in (RING_65, all_ties(65), FULL):
            for call, value in ((lone_paper, ()), (is_lone_paper, (0,)), (is_lone_paper, (("two", (0, 0), (0, 0)),))):
                for depth in (1, 8):
                    self.assertEqual(self.assertRaisesJust(TooMany, call, web, depth, *value).limit, 64)

    def test_wrong(self):
        for web in (FOUR, RING_65):
            self.assertRefusals(lone_paper, (web, 2), web_rule(), DEPTH)
            self.assertRefusals(is_lone_paper, (web, 2, None), web_rule(), DEPTH)
        self.assertRaisesJust(InvalidWeb, is_lone_paper, FOUR.rows, 9, FOUR)
        self.assertEqual(self.assertRaisesJust(InvalidNumber, lone_paper, FOUR, LONG).value, LONG)


if __name__ == "__main__":
    unittest.main()
