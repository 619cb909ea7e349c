"""The only walks of lone webs, and long walks by their index: stage 6."""

import itertools
import unittest

from onebetween.errors import InvalidNumber, InvalidOperation, InvalidWalk, NotLone
from onebetween.lone.middles import (
    MAX_STEPS, address, between, is_middle_table, long_walk_at, long_walk_index, middle_table, place_at, steps_to, the_walk,
    web_of_table,
)
from onebetween.webs.making import all_ties, line_web, product, word_web
from onebetween.webs.webs import Web
from tests.cases import Case
from tests.some_webs import BARE, DEEP, DOT, FULL, LOOP, all_walks
from tests.wrong_values import ANY_KIND, BENT, FOUR, LONG, NINE, NO_COUNTS, number_rule, web_rule, without

DEPTH = number_rule(1, 1, 8)
LONE = ((FOUR, 2), (NINE, 2), (DEEP, 3), (all_ties(3), 1), (all_ties(1), 1), (LOOP, 2), (LOOP, 8), (FOUR.renamed((2, 0, 3, 1)), 2),
        (line_web(NINE), 3), (word_web(2, 4), 4))
# Webs and depths of which they are not lone; all have at least four places.
NOT_LONE = ((BENT, 2), (FOUR, 1), (FOUR, 3), (NINE, 4), (FULL, 2), (word_web(2, 8), 7), (Web(((),) * 4), 1))


class Walks(Case):
    def test_by_force(self):
        for web, depth in LONE:
            for one in range(len(web)):
                walks = {walk[-1]: walk for walk in all_walks(web, one, depth)}
                least = {}
                for steps in range(depth + 1):
                    for walk in all_walks(web, one, steps):
                        least.setdefault(walk[-1], steps)
                for other in range(len(web)):
                    self.assertSame(the_walk(web, depth, one, other), walks[other])
                    self.assertSame(steps_to(web, depth, one, other), least[other])
                    labels = tuple(web.rows[place].index(after) for place, after in zip(walks[other], walks[other][1:]))
                    self.assertSame(address(web, depth, one, other), labels)
                    self.assertSame(place_at(web, depth, one, labels), other)

    def test_all_addresses(self):
        for web, depth in LONE:
            degree = len(web.rows[0])
            for start in range(len(web)):
                found = [place_at(web, depth, start, labels) for labels in itertools.product(range(degree), repeat=depth)]
                self.assertSame(sorted(found), list(range(len(web))))

    def test_great(self):
        for web, depth in ((FULL, 1), (word_web(16, 2), 2), (word_web(2, 8), 8)):
            for one, other in ((0, 255), (255, 0), (100, 7), (7, 7)):
                walk = the_walk(web, depth, one, other)
                self.assertEqual((len(walk), walk[0], walk[-1]), (depth + 1, one, other))
                self.assertTrue(all(after in web.rows[place] for place, after in zip(walk, walk[1:])))
                self.assertSame(place_at(web, depth, one, address(web, depth, one, other)), other)
                self.assertLessEqual(steps_to(web, depth, one, other), depth)
        self.assertSame(steps_to(word_web(2, 8), 8, 0, 255), 8)
        self.assertSame(steps_to(FULL, 1, 3, 3), 0)

    def test_not_lone(self):
        for web, depth in NOT_LONE:
            for call, more in ((the_walk, (0, 1)), (address, (0, 1)), (steps_to, (0, 1)), (place_at, (0, "no labels")),
                               (place_at, (0, (9,) * depth)), (long_walk_at, (0, 1, 50, 10 ** 199)), (long_walk_at, (0, 0, depth, 0))):
                self.assertRefused(NotLone, "reason", depth, call, web, depth, *more)
        for web in (BENT, BARE, DOT, DEEP, FULL):
            self.assertRefused(NotLone, "reason", 2, middle_table, web)
            self.assertRefused(NotLone, "reason", 2, between, web, 0, 0)

    def test_wrong(self):
        for web in (FOUR, BENT):
            ends = (number_rule(2, 0, 3), number_rule(3, 0, 3))
            for call in (the_walk, address, steps_to):
                self.assertRefusals(call, (web, 2, 1, 2), web_rule(), DEPTH, *ends)
            self.assertRefusals(between, (web, 1, 2), web_rule(), number_rule(1, 0, 3), number_rule(2, 0, 3))
            self.assertRefusals(middle_table, (web,), web_rule())
            self.assertRefusals(place_at, (web, 2, 1, (0, 1)), web_rule(), DEPTH, number_rule(2, 0, 3))
        self.assertRefusals(the_walk, (LOOP, 1, 0, 0), number_rule(2, 0, 0), number_rule(3, 0, 0))

    def test_wrong_labels(self):
        wrong = without(ANY_KIND, (1, 2)) + ((0, 3), (3, 0), (1,), (1, 2, 0), (-1, 0), (0, True), (1, LONG), (1, "1"), [1, 2])
        for labels in wrong:
            with self.subTest(labels=labels):
                self.assertRaisesJust(InvalidOperation, place_at, NINE, 2, 1, labels)
        self.assertSame(place_at(NINE, 2, 1, (1, 2)), 8)
        self.assertRaisesJust(InvalidOperation, place_at, LOOP, 3, 0, (0, 0))
        self.assertRaisesJust(InvalidOperation, place_at, LOOP, 3, 0, (0, 0, 1))
        self.assertRaisesJust(InvalidOperation, place_at, FULL, 1, 0, (256,))
        self.assertSame(place_at(FULL, 1, 0, (255,)), 255)


def is_table_by_force(table):
    """Judge a tuple of tuples of places by the equality of 6.1."""
    places = range(len(table))
    return all(table[table[x][y]][table[y][z]] == y for x in places for y in places for z in places)


class Tables(Case):
    def test_between(self):
        for web in (FOUR, NINE, LOOP, NINE.turned(), product(FOUR, FOUR), FOUR.renamed((3, 1, 0, 2))):
            table = middle_table(web)
            self.assertTrue(is_table_by_force(table))
            for one, other in itertools.product(range(len(web)), repeat=2):
                middle = between(web, one, other)
                self.assertSame(table[one][other], middle)
                self.assertTrue(middle in web.rows[one] and other in web.rows[middle])
            self.assertIs(is_middle_table(table), True)
            found = web_of_table(table)
            self.assertIs(found.__class__, Web)
            self.assertSame(found.rows, web.rows)

    def test_all_tables(self):
        for many in (1, 2):
            for table in itertools.product(itertools.product(range(many), repeat=many), repeat=many):
                self.assertIs(is_middle_table(table), is_table_by_force(table))
        # Tables of three places: none of them, for three is no square.
        for table in itertools.product(itertools.product(range(3), repeat=3), repeat=3):
            if is_table_by_force(table) or is_middle_table(table):
                self.fail(table)

    def test_one_place_changed(self):
        for web in (FOUR, NINE, LOOP):
            table = middle_table(web)
            for x, y in itertools.product(range(len(web)), repeat=2):
                for place in range(len(web)):
                    row = table[x][:y] + (place,) + table[x][y + 1:]
                    value = table[:x] + (row,) + table[x + 1:]
                    self.assertIs(is_middle_table(value), is_table_by_force(value))
                for place in (-1, len(web), True, False, None, "0", (0,), LONG, [0], FOUR):
                    row = table[x][:y] + (place,) + table[x][y + 1:]
                    self.assertIs(is_middle_table(table[:x] + (row,) + table[x + 1:]), False)

    def test_equal_rows_are_not_enough(self):
        # The web of these rows is FOUR, but the places between are exchanged.
        table = middle_table(FOUR)
        for value in itertools.permutations(table):
            self.assertIs(is_middle_table(value), is_table_by_force(value))
        turned = tuple(tuple(row[::-1]) for row in table)
        self.assertIs(is_middle_table(turned), is_table_by_force(turned))

    def test_great(self):
        for web in (word_web(16, 2), product(FOUR, word_web(8, 2)), word_web(15, 2)):
            table = middle_table(web)
            self.assertIs(is_middle_table(table), True)
            self.assertTrue(web_of_table(table) == web)
            spoilt = table[:7] + (table[7][1:] + table[7][:1],) + table[8:]
            self.assertIs(is_middle_table(spoilt), False)
        # A table of the right form with 17 * 17 places is too great.
        places = range(289)
        great = tuple(tuple(x % 17 * 17 + y // 17 for y in places) for x in places)
        self.assertIs(is_middle_table(great), False)
        self.assertRaisesJust(InvalidOperation, web_of_table, great)

    def test_other_values(self):
        table = middle_table(FOUR)
        other = (list(table), table[:3], table + table[:1], table[:3] + (list(table[3]),), table[:3] + (table[3][:3],), FOUR, (table,),
                 (), ((),), ((0,), (0,)), ((0, 0), (1, 1)), ((0, 1), (0, 1)), ((1,),), ((False,),), ((0, 0),))
        for value in other + ANY_KIND:
            self.assertIs(is_middle_table(value), False)
            self.assertRaisesJust(InvalidOperation, web_of_table, value)
        self.assertIs(is_middle_table(((0,),)), True)
        self.assertTrue(web_of_table(((0,),)) == LOOP)


class LongWalks(Case):
    def test_by_force(self):
        for web, depth in LONE:
            if len(web) > 16:
                continue
            for steps in range(depth, depth + 3):
                for one in range(len(web)):
                    walks = all_walks(web, one, steps)
                    for other in range(len(web)):
                        wanted = [walk for walk in walks if walk[-1] == other]
                        self.assertEqual(len(wanted), len(web.rows[0]) ** (steps - depth))
                        for index, walk in enumerate(wanted):
                            self.assertSame(long_walk_at(web, depth, one, other, steps, index), walk)
                            self.assertSame(long_walk_index(web, depth, walk), index)
                        many = len(wanted)
                        self.assertRefused(InvalidNumber, "value", many, long_walk_at, web, depth, one, other, steps, many)

    def test_long(self):
        self.assertEqual(MAX_STEPS, 100)
        for web, depth in ((FULL, 1), (word_web(16, 2), 2), (word_web(2, 8), 8), (NINE, 2), (LOOP, 1), (LOOP, 8)):
            degree = len(web.rows[0])
            last = len(web) - 1
            for steps in (depth, depth + 1, 50, 99, 100):
                many = degree ** (steps - depth)
                for index in {0, many // 3, many // 2, many - 1}:
                    if index >= 10 ** 200:
                        continue
                    walk = long_walk_at(web, depth, last, 0, steps, index)
                    self.assertEqual((walk.__class__, len(walk), walk[0], walk[-1]), (tuple, steps + 1, last, 0))
                    self.assertTrue(all(after in web.rows[place] for place, after in zip(walk, walk[1:])))
                    self.assertTrue(long_walk_index(web, depth, walk) == index)
                if many < 10 ** 200:
                    for index in (many, many + 1, 10 ** 200 - 1):
                        self.assertRefused(InvalidNumber, "value", index, long_walk_at, web, depth, 0, 0, steps, index)

    def test_neighbours(self):
        for index in (0, 12345, 10 ** 50, 10 ** 199, 10 ** 200 - 2):
            one = long_walk_at(FULL, 1, 3, 4, 100, index)
            other = long_walk_at(FULL, 1, 3, 4, 100, index + 1)
            self.assertLess(one, other)
        # An index that is told can have more than 200 digits.
        walk = (255,) * 101
        self.assertTrue(long_walk_index(FULL, 1, walk) == 256 ** 99 - 1)

    def test_wrong(self):
        index = (5, NO_COUNTS, InvalidNumber, "value")
        for web in (FOUR, BENT):
            steps = number_rule(4, 2, 100)
            ends = (number_rule(2, 0, 3), number_rule(3, 0, 3))
            self.assertRefusals(long_walk_at, (web, 2, 0, 1, 3, 1), web_rule(), DEPTH, *ends, steps, index)
        self.assertRefusals(long_walk_at, (DEEP, 3, 0, 1, 3, 0), number_rule(4, 3, 100))
        self.assertRefusals(long_walk_at, (LOOP, 8, 0, 0, 8, 0), number_rule(4, 8, 100))

    def test_wrong_walks(self):
        walk = (0, 1, 2, 0)
        wrong = ((0, 1), (0,), (), (0, 2, 0), (0, 1, 2, 4), (0, 1, 2, -1), (0, True, 2, 0), (False, 1, 2, 0), [0, 1, 2, 0],
                 (0,) * 102, (0, 1, 2, "0"), (0, 1, 2, None), (0, 1, 2, LONG), (0, 1, 1, 0), (walk,))
        for web in (FOUR, Web(((0, 1), (2, 3), (0, 1), (1, 3)))):
            self.assertRefusals(long_walk_index, (web, 2, walk), web_rule(), DEPTH, (2, wrong + without(ANY_KIND, (0, 1, 2)), InvalidWalk, None))
        self.assertSame(long_walk_index(FOUR, 2, (0,) * 101), 0)
        self.assertRaisesJust(InvalidWalk, long_walk_index, DEEP, 3, (0, 1, 2))
        self.assertRefused(NotLone, "reason", 3, long_walk_index, FOUR, 3, walk)
        self.assertRefused(NotLone, "reason", 1, long_walk_index, FOUR, 1, (0, 1))
        self.assertRaisesJust(InvalidWalk, long_walk_index, BENT, 2, (0, 1, 2, 1))
        self.assertRefused(NotLone, "reason", 2, long_walk_index, BENT, 2, (0, 1, 2, 2))


if __name__ == "__main__":
    unittest.main()
