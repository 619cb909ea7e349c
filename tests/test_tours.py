"""Trees and tours: stage 8."""

import itertools
import math
import time
import unittest

from onebetween.base.matrices import determinant
from onebetween.errors import InvalidNumber, InvalidOperation, NotLone, TooMany
from onebetween.lone.papers import depth_of
from onebetween.lone.tours import (
    MAX_PLACES, any_tour, any_tree, count_tours, count_trees, each_tour, each_tree, is_tour, is_tree, lone_tours, lone_trees,
    tour_of, tour_parts,
)
from onebetween.webs.making import all_ties, both, line_web, product, word_web
from onebetween.webs.webs import Web
from tests.cases import Case
from tests.some_webs import BARE, DEEP, DOT, FULL, LOOP, RING_65, small_webs
from tests.wrong_values import ANY_KIND, BENT, FOUR, LONG, NINE, number_rule, web_rule

RING_64 = Web(tuple(((place + 1) % 64,) for place in range(64)))
PAIR = Web(((1,), (0,)))
# Two parts with tours of their own, which do not hang together, and places without ties among others.
APART = both(all_ties(2), all_ties(2))
LOOSE = both(both(DOT, FOUR), DOT)


def first_tree(*given):
    return next(each_tree(*given), None)


def first_tour(*given):
    return next(each_tour(*given), None)


def leads(web, root, entries):
    """Tell whether the steps to the entries lead from each place to the root."""
    for place in range(len(web)):
        for _ in range(len(web)):
            place = place if place == root else entries[place]
        if place != root:
            return False
    return True


def trees(web, root):
    """Return all trees by force, ascending."""
    choices = [(None,) if place == root else row for place, row in enumerate(web.rows)]
    return [entries for entries in itertools.product(*choices) if leads(web, root, entries)]


def rounds(web, walk, left):
    """Return all walks that go on with all ties that are left."""
    if not left:
        return [walk]
    found = []
    for one, other in sorted(left):
        if one == walk[-1]:
            found.extend(rounds(web, walk + (other,), left - {(one, other)}))
    return found


def tours(web):
    """Return all tours by force, ascending."""
    if not web.ties:
        return []
    return [walk for walk in rounds(web, web.ties[0], set(web.ties[1:])) if walk[0] == walk[-1]]


def some_webs():
    return [web for web in small_webs() if len(web) < 5] + [LOOP, DOT, BARE, PAIR, APART, LOOSE, both(LOOP, DOT), both(DOT, all_ties(2)),
                                                           all_ties(3), product(PAIR, all_ties(2)), FOUR.renamed((3, 0, 2, 1))]


class Trees(Case):
    def test_by_force(self):
        for web in some_webs():
            for root in range(len(web)):
                wanted = trees(web, root)
                self.assertSame(list(each_tree(web, root)), wanted)
                self.assertSame(count_trees(web, root), len(wanted))
                if wanted:
                    self.assertIn(any_tree(web, root), wanted)
                    self.assertIs(any_tree(web, root).__class__, tuple)
                else:
                    self.assertIs(any_tree(web, root), None)
                for tree in wanted:
                    self.assertIs(is_tree(web, root, tree), True)

    def test_all_tuples(self):
        for web in (BENT, Web(((0, 1, 2), (1, 2), (0,))), LOOP, DOT, PAIR):
            many = len(web)
            for root in range(many):
                wanted = trees(web, root)
                for value in itertools.product((None,) + tuple(range(-1, many + 1)), repeat=many):
                    self.assertIs(is_tree(web, root, value), value in wanted)

    def test_numbers_of_lone_webs(self):
        for web, many in ((FOUR, 2), (NINE, 729), (DEEP, 16), (all_ties(5), 125), (LOOP, 1), (word_web(2, 4), 2048)):
            self.assertSame(lone_trees(web), many)
            for root in range(len(web)):
                self.assertSame(count_trees(web, root), many)
            self.assertEqual(len(list(each_tree(web, 1 % len(web)))), many)

    def test_great(self):
        self.assertEqual(MAX_PLACES, 64)
        for web in (all_ties(64), word_web(2, 6), word_web(8, 2), word_web(4, 3)):
            self.assertTrue(count_trees(web, 63) == lone_trees(web))
            found = [tree for tree, _ in zip(each_tree(web, 5), range(200))]
            self.assertEqual(len(found), 200)
            for one, other in zip(found, found[1:]):
                self.assertLess(one[:5] + one[6:], other[:5] + other[6:])
            for tree in found[::20] + [any_tree(web, 5)]:
                self.assertIs(is_tree(web, 5, tree), True)
                self.assertTrue(leads(web, 5, tree))
        tree = tuple(range(1, 64)) + (None,)
        self.assertSame(list(each_tree(RING_64, 63)), [tree])
        self.assertSame([count_trees(RING_64, 63), any_tree(RING_64, 63)], [1, tree])
        # The last place of a path is the only root; from the others back there are very many trees.
        path = Web(tuple(tuple(range(min(place + 2, 64))) for place in range(64)))
        self.assertSame(list(each_tree(path, 63)), [tree])
        self.assertSame(count_trees(path, 0), math.factorial(64) // 2)
        self.assertIs(is_tree(path, 0, (None,) + (0,) * 63), True)

    def test_kinds(self):
        for value in ((None, 2, 0, True), (None, 2, False, 2), (0, 2, 0, 2), (None, None, 0, 2), (None, 2, 0), (None, 2, 0, 2, 0), [None, 2, 0, 2],
                      (None, 2, 0, LONG), (None, 2, 0, "2"), (None, 2, 0, (2,)), (None, 2, 1, 2), (None, 2, 0, 3), (False, 2, 0, 2), (None, 3, 0, 3)):
            self.assertIs(is_tree(FOUR, 0, value), False)
        self.assertIs(is_tree(FOUR, 0, (None, 2, 0, 2)), True)
        self.assertJudges(is_tree, (FOUR, 0), ANY_KIND)
        self.assertJudges(is_tree, (DOT, 0), tuple(value for value in ANY_KIND if value != (None,)))
        self.assertIs(is_tree(DOT, 0, (None,)), True)

    def test_wrong(self):
        for web in (FOUR, BENT):
            for call, more in ((is_tree, (None,)), (count_trees, ()), (any_tree, ()), (first_tree, ())):
                self.assertRefusals(call, (web, 1) + more, web_rule(), number_rule(1, 0, 3))
        for call, more in ((is_tree, (None,)), (count_trees, ()), (any_tree, ()), (first_tree, ())):
            self.assertRefused(InvalidNumber, "value", 65, call, RING_65, 65, *more)
            for web in (RING_65, all_ties(65), FULL):
                self.assertEqual(self.assertRaisesJust(TooMany, call, web, 64, *more).limit, 64)


class Determinants(Case):
    def test_by_force(self):
        for many in (0, 1, 2, 3):
            for entries in itertools.product((-2, 0, 1) if many == 3 else (-2, -1, 0, 1, 3), repeat=many * many):
                rows = [list(entries[at * many:at * many + many]) for at in range(many)]
                total = 0
                for order in itertools.permutations(range(many)):
                    swaps = sum(one > other for one, other in itertools.combinations(order, 2))
                    total += (-1) ** swaps * math.prod(rows[at][order[at]] for at in range(many))
                self.assertSame(determinant(rows), total)


class Tours(Case):
    def test_by_force(self):
        for web in some_webs():
            wanted = tours(web)
            self.assertSame(list(each_tour(web)), wanted)
            self.assertSame(count_tours(web), len(wanted))
            if wanted:
                self.assertIn(any_tour(web), wanted)
            else:
                self.assertIs(any_tour(web), None)
            for tour in wanted:
                self.assertIs(is_tour(web, tour), True)

    def test_one_place_changed(self):
        for web in (FOUR, BENT, LOOP, PAIR, LOOSE, all_ties(3)):
            wanted = tours(web)
            for tour in wanted[:5]:
                for at in range(len(tour)):
                    for place in range(-1, len(web) + 1):
                        value = tour[:at] + (place,) + tour[at + 1:]
                        self.assertIs(is_tour(web, value), value in wanted)
                    for place in (True, False, None, "0", (0,), LONG, [0], FOUR):
                        self.assertIs(is_tour(web, tour[:at] + (place,) + tour[at + 1:]), False)

    def test_all_rounds(self):
        # A round that begins elsewhere is no tour.
        for tour in tours(FOUR):
            for at in range(1, len(tour) - 1):
                self.assertIs(is_tour(FOUR, tour[at:-1] + tour[:at + 1]), False)
        for value in itertools.product(range(2), repeat=5):
            self.assertIs(is_tour(all_ties(2), value), value == (0, 0, 1, 1, 0))

    def test_ends(self):
        self.assertSame([list(each_tour(LOOP)), count_tours(LOOP), any_tour(LOOP)], [[(0, 0)], 1, (0, 0)])
        for web in (DOT, BARE, APART, BENT.without_tie(0, 0).with_tie(0, 2), both(LOOP, LOOP), Web(((1,), ())), Web(((0, 1), ()))):
            self.assertSame([list(each_tour(web)), count_tours(web), any_tour(web)], [[], 0, None])
        for value in ((), (0,), (0, 0)):
            self.assertIs(is_tour(DOT, value), False)
            self.assertIs(is_tour(BARE, value), False)
        self.assertIs(is_tour(LOOP, (0, 0)), True)
        # All ties just once, but not back to the first place.
        self.assertIs(is_tour(Web(((1,), ())), (0, 1)), False)
        self.assertIs(is_tour(Web(((0, 1), (1,))), (0, 0, 1, 1)), False)
        self.assertSame([count_tours(LOOSE), any_tour(LOOSE)[:2]], [2, (1, 1)])
        self.assertSame(list(each_tour(both(DOT, LOOP))), [(1, 1)])

    def test_great(self):
        for web in (all_ties(64), word_web(2, 6), word_web(8, 2), word_web(4, 3), RING_64):
            many = 1 if web is RING_64 else lone_tours(web)
            self.assertTrue(count_tours(web) == many)
            found = [tour for tour, _ in zip(each_tour(web), range(50))]
            self.assertEqual(len(found), min(many, 50))
            self.assertTrue(all(one < other for one, other in zip(found, found[1:])))
            for tour in found[::10] + [any_tour(web)]:
                self.assertIs(is_tour(web, tour), True)
                self.assertEqual(sorted(zip(tour, tour[1:])), list(web.ties))
        self.assertEqual(len(list(each_tour(word_web(2, 4)))), 2048)

    def test_numbers_of_lone_webs(self):
        for web, many in ((FOUR, 2), (NINE, 373248), (DEEP, 16), (all_ties(3), 24), (LOOP, 1), (all_ties(2), 1), (all_ties(1), 1)):
            self.assertSame(lone_tours(web), many)
            self.assertSame(count_tours(web), many)
        self.assertSame([lone_trees(word_web(2, 5)), lone_tours(word_web(2, 5))], [2 ** 26, 2 ** 26])
        for web, depth, degree in ((FULL, 1, 256), (word_web(2, 8), 8, 2), (word_web(16, 2), 2, 16), (all_ties(65), 1, 65), (line_web(NINE), 3, 3)):
            many = degree ** (len(web) - 1 - depth)
            self.assertTrue(lone_trees(web) == many)
            self.assertTrue(lone_tours(web) == many * math.factorial(degree - 1) ** len(web))

    def test_wrong(self):
        self.assertRefusals(is_tour, (FOUR, None), web_rule())
        self.assertJudges(is_tour, (FOUR,), ANY_KIND)
        for call in (count_tours, any_tour, first_tour, lone_trees, lone_tours):
            self.assertRefusals(call, (FOUR,), web_rule())
        for web in (RING_65, all_ties(65), FULL, Web(((),) * 65)):
            for call, more in ((is_tour, (None,)), (count_tours, ()), (any_tour, ()), (first_tour, ())):
                self.assertEqual(self.assertRaisesJust(TooMany, call, web, *more).limit, 64)
        for web in (BENT, DOT, BARE, RING_65, PAIR, APART, FULL.without_tie(3, 4), LOOSE):
            for call in (lone_trees, lone_tours):
                self.assertIs(self.assertRaisesJust(NotLone, call, web).reason, None)


def parts_by_force(tour):
    """Return the tree and the orders of a tour by a look at its places."""
    tree, orders = [], []
    for place in range(max(tour) + 1):
        exits = [after for one, after in zip(tour, tour[1:]) if one == place]
        if place == tour[0]:
            tree.append(None)
            orders.append(tuple(exits[1:]))
        else:
            tree.append(exits[-1])
            orders.append(tuple(exits[:-1]))
    return tuple(tree), tuple(orders)


TOURED = (FOUR, BENT, LOOP, PAIR, all_ties(2), all_ties(3), DEEP, product(PAIR, all_ties(2)), FOUR.renamed((3, 0, 2, 1)), RING_64)


# Webs that are lone of depths 1 to 3, of at most 64 places: word webs and others.
LONE = (
    [word_web(degree, 1) for degree in (1, 2, 3, 8, 63, 64)] + [word_web(degree, 2) for degree in range(2, 9)]
    + [word_web(degree, 3) for degree in (2, 3, 4)]
    + [NINE, NINE.turned(), line_web(NINE), line_web(FOUR), product(NINE, FOUR), product(FOUR, NINE.turned()), product(product(FOUR, FOUR), FOUR),
       product(line_web(FOUR), word_web(2, 3)), product(all_ties(8), all_ties(8))]
)
# Webs that are not lone, some of them with tours, and what is their number of tours.
UNLIKE = (
    BENT, Web(((1,), (2,), (0, 3), (2,))), Web(((0, 1), (0, 2), (1, 3), (2,))), Web(((1, 2), (0, 2), (0, 1))), both(PAIR, LOOP), both(DOT, BENT),
    both(BENT, DOT), Web(((0,), (1,))), Web(((1, 2, 3), (0,), (0,), (0,))), Web(((1, 2, 3), (0, 2), (0, 1), (0,))), Web(((), (2, 3), (1,), (1,))),
    product(PAIR, all_ties(2)), FOUR.with_tie(0, 3).with_tie(3, 0), FOUR.without_tie(0, 0), FOUR.without_tie(1, 2),
)


def shuffled(many):
    """Return an order of so many places that leaves few of them where they are."""
    step = next(step for step in range(many // 2 + 1, many + 2) if math.gcd(step, many) == 1)
    return tuple((place * step + 3) % many for place in range(many))


class Numbers(Case):
    def test_lone_webs(self):
        for web in LONE:
            degree, depth = len(web.rows[0]), depth_of(web)
            self.assertEqual(degree ** depth, len(web))
            trees_of = degree ** (len(web) - 1 - depth) if degree > 1 else 1
            tours_of = trees_of * math.factorial(degree - 1) ** len(web)
            for some in (web, web.renamed(shuffled(len(web)))):
                self.assertTrue(count_tours(some) == tours_of)
                self.assertTrue(lone_tours(some) == tours_of)
                for root in (0, len(web) - 1):
                    self.assertTrue(count_trees(some, root) == trees_of)

    def test_small_webs_by_force(self):
        for web in UNLIKE + (FOUR, all_ties(2), all_ties(3), DEEP):
            for some in (web, web.renamed(shuffled(len(web))), web.turned()):
                self.assertSame(count_tours(some), len(tours(some)))
                for root in range(len(some)):
                    self.assertSame(count_trees(some, root), len(trees(some, root)))

    def test_first_tours(self):
        for web in LONE + list(UNLIKE):
            for some in (web, web.renamed(shuffled(len(web))), web.turned()):
                told = any_tour(some)
                self.assertEqual(told, first_tour(some))
                self.assertEqual(told is None, count_tours(some) == 0)
                if told is not None:
                    self.assertIs(is_tour(some, told), True)
                    self.assertEqual(told, least_tour(some))

    def test_many_short_questions(self):
        begin = time.process_time()
        for _ in range(100):
            count_tours(word_web(8, 2))
        self.assertLess(time.process_time() - begin, 0.5)
        begin = time.process_time()
        for _ in range(50):
            any_tour(word_web(8, 2))
        self.assertLess(time.process_time() - begin, 0.5)

    def test_dense_webs_without_some_rounds(self):
        # Tours of webs from which closed walks are taken: as many ties from each place as to it.
        web = word_web(8, 2)
        for taken in ((0, 1, 8, 0), (1, 9, 8, 1), (63, 63), (5, 41, 13, 44, 37, 40, 5)):
            less = web
            for one, other in zip(taken, taken[1:]):
                less = less.without_tie(one, other)
            self.assertEqual(any_tour(less), least_tour(less))
            found = [tour for tour, _ in zip(each_tour(less), range(30))]
            self.assertEqual(found, sorted(set(found)))
            self.assertTrue(all(is_tour(less, tour) for tour in found))


def least_tour(web):
    """Return the least tour: the least next place from which all ties that are left can still be passed."""
    left = {place: list(row) for place, row in enumerate(web.rows)}
    tour = list(web.ties[0])
    left[tour[0]].remove(tour[1])
    while any(left.values()):
        place = tour[-1]
        for after in list(left[place]):
            left[place].remove(after)
            seen, new = {after}, [after]
            while new:
                more = [other for one in new for other in left[one] if other not in seen]
                seen.update(more)
                new = sorted(set(more))
            if all(one in seen for one, row in left.items() if row):
                tour.append(after)
                break
            left[place] = sorted(left[place] + [after])
    return tuple(tour)


class Errors(Case):
    def test_errors_come_with_the_first_result(self):
        for call, given in ((each_tree, (None, 0)), (each_tree, (FOUR, 4)), (each_tree, (RING_65, 0)), (each_tour, (None,)), (each_tour, (RING_65,))):
            found = call(*given)
            self.assertRaises((ValueError, IndexError, TooMany), next, found)


class Parts(Case):
    def test_by_force(self):
        for web in TOURED:
            self.assertTrue(all(web.rows))
            for tour in each_tour(web):
                parts = tour_parts(web, tour)
                self.assertSame(parts, parts_by_force(tour))
                self.assertSame(tour_of(web, *parts), tour)

    def test_all_parts(self):
        # Each tree with each order of the remaining next places belongs to just one tour.
        for web in TOURED[:-1]:
            start, second = web.ties[0]
            found = []
            for tree in trees(web, start):
                fixed = [second if place == start else entry for place, entry in enumerate(tree)]
                rests = [[after for after in row if after != fixed[place]] for place, row in enumerate(web.rows)]
                for orders in itertools.product(*[itertools.permutations(rest) for rest in rests]):
                    found.append(tour_of(web, tree, orders))
                    self.assertSame(tour_parts(web, found[-1]), (tree, orders))
            self.assertEqual(sorted(found), list(each_tour(web)))

    def test_great(self):
        for web in (all_ties(64), word_web(8, 2), word_web(2, 6)):
            for tour, _ in zip(each_tour(web), range(3)):
                self.assertEqual(tour_of(web, *tour_parts(web, tour)), tour)

    def test_no_tours(self):
        for web in (DOT, BARE, APART, LOOSE, both(LOOP, DOT), Web(((0, 1), ())), FOUR.without_tie(1, 2)):
            many = len(web)
            for tour in tours(web) + [(0, 0), (0,), (), None]:
                self.assertRaisesJust(InvalidOperation, tour_parts, web, tour)
            for tree, orders in (((None,) + (0,) * (many - 1), ((),) * many), ((None,), ((),)), (None, None), ((), ())):
                self.assertRaisesJust(InvalidOperation, tour_of, web, tree, orders)
        # The tours of the part with ties have trees and orders only without the other places.
        tree, orders = tour_parts(FOUR, any_tour(FOUR))
        self.assertRaisesJust(InvalidOperation, tour_of, both(FOUR, DOT), tree + (None,), orders + ((),))
        self.assertRaisesJust(InvalidOperation, tour_of, both(FOUR, DOT), tree, orders)

    def test_right_parts_of_a_web_without_tours(self):
        web = FOUR.without_tie(1, 2)
        tree, orders = (None, 3, 0, 2), ((1,), (), (1,), (3,))
        self.assertIs(is_tree(web, 0, tree), True)
        self.assertRaisesJust(InvalidOperation, tour_of, web, tree, orders)
        self.assertSame(tour_of(FOUR, tree, ((1,), (2,), (1,), (3,))), any_tour(FOUR))

    def test_wrong_tours(self):
        tour = any_tour(FOUR)
        wrong = (tour[:-1], tour + tour[-1:], tour[::-1], list(tour), tour[1:] + tour[1:2], (False,) + tour[1:], (tour,))
        self.assertRefusals(tour_parts, (FOUR, tour), web_rule(), (1, wrong + ANY_KIND, InvalidOperation, None))

    def test_wrong_parts(self):
        tree, orders = tour_parts(FOUR, any_tour(FOUR))
        self.assertEqual((tree, orders), ((None, 3, 0, 2), ((1,), (2,), (1,), (3,))))
        wrong_trees = ((None, 3, 0, 3), (None, 3, 1, 2), (None, 3, 0), (None, 3, 0, 2, 0), [None, 3, 0, 2], (0, 3, 0, 2), (None, 3, False, 2),
                       (1, None, 0, 2), (None, None, 0, 2), (None, 3, 0, LONG))
        wrong_orders = (((0,), (2,), (1,), (3,)), ((1,), (3,), (1,), (3,)), ((1,), (2,), (1,)), ((1,), (2,), (1,), (3,), ()), list(orders),
                        ([1], (2,), (1,), (3,)), ((1,), (2,), (1,), (3, 3)), ((1,), (2,), (1,), ()), ((True,), (2,), (1,), (3,)),
                        ((1,), (2,), (1,), ("3",)), ((1,), (2,), (1,), 3), ((0, 1), (2,), (1,), (3,)), ((1,), (2,), (1,), (LONG,)), ((1,), (2,), (1,), (-1,)))
        rules = (1, wrong_trees + ANY_KIND, InvalidOperation, None), (2, wrong_orders + ANY_KIND, InvalidOperation, None)
        self.assertRefusals(tour_of, (FOUR, tree, orders), web_rule(), *rules)

    def test_too_many(self):
        tour = tuple(range(65)) + (0,)
        tree, orders = (None,) + tuple(range(2, 65)) + (0,), ((),) * 65
        self.assertEqual(self.assertRaisesJust(TooMany, tour_parts, RING_65, tour).limit, 64)
        self.assertEqual(self.assertRaisesJust(TooMany, tour_of, RING_65, tree, orders).limit, 64)
        # TooMany comes behind the errors of the other arguments.
        for wrong in (tour[:-1], tour[1:] + (1,), None, ()):
            self.assertRaisesJust(InvalidOperation, tour_parts, RING_65, wrong)
        for wrong in ((tree, orders[:-1]), (tree[:-1], orders), (tree, None), (None, orders), (tree[:-1] + (None,), orders), (tree, ((1,),) + orders[1:])):
            self.assertRaisesJust(InvalidOperation, tour_of, RING_65, *wrong)
        for web in (Web(((),) * 65), RING_65.without_tie(64, 0), both(RING_64, LOOP)):
            self.assertRaisesJust(InvalidOperation, tour_parts, web, tour)
            self.assertRaisesJust(InvalidOperation, tour_of, web, tree, orders)


if __name__ == "__main__":
    unittest.main()
