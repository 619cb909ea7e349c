"""Terms: stage 14."""

import itertools
import math
import random
import unittest

from onebetween.errors import InvalidNumber, InvalidOperation, InvalidTerm, InvalidWeb, NotLone, ParseError, TooMany
from onebetween.lone.middles import between
from onebetween.terms.terms import (
    MAX_LETTERS, count_terms, each_term, is_term, letters_of, levels_of, matched, mirrored, part_at, product_of, read_text, replaced, sides_of,
    size_of, substituted, text_of, value_of,
)
from onebetween.webs.making import product, word_web
from tests.cases import Case
from tests.some_terms import LETTERS, all_terms, drawn_term, great_terms, left_comb, read_tree, right_comb, spoilt, write_tree
from tests.some_webs import BARE, DEEP, FULL, LOOP
from tests.wrong_values import ANY_KIND, BENT, FOUR, LONG, NINE, number_rule, web_rule, without

WHOLE = "**xy*yz"
# Strings that are no terms, and values of other kinds.
NO_TERMS = without(ANY_KIND, "a", "z") + (
    "*", "**", "*a", "a*", "ab", "*abc", "**ab", "*a*", "A", "*aB", "a ", " a", "a\n", "*a b", "(a)", "a*b", "*a1", "*a(", "{", "`", "*" * 399 + "a",
    "*" * 200 + "a" * 201, "*" * 199 + "a" * 201, "*" * 200 + "a" * 200, "a" * 8000, "*" * 8000, right_comb("a", 201), left_comb("ab", 201),
)
SMALL = [term for letters, sizes in (("a", 7), ("ab", 5), ("abc", 4)) for size in range(1, sizes) for term in all_terms(letters, size)]


def rule(index=0, values=NO_TERMS):
    return index, values, InvalidTerm, None


def first_term(*given):
    return next(each_term(*given))


def size_by_force(tree):
    return 1 if isinstance(tree, str) else size_by_force(tree[0]) + size_by_force(tree[1])


def levels_by_force(tree):
    return 0 if isinstance(tree, str) else 1 + max(levels_by_force(tree[0]), levels_by_force(tree[1]))


def mirror_by_force(tree):
    return tree if isinstance(tree, str) else (mirror_by_force(tree[1]), mirror_by_force(tree[0]))


def parts_by_force(tree):
    """Return the parts in the order of their indexes."""
    return [tree] if isinstance(tree, str) else [tree] + parts_by_force(tree[0]) + parts_by_force(tree[1])


def replaced_by_force(tree, index, other):
    if index == 0:
        return other
    many = len(parts_by_force(tree[0]))
    if index <= many:
        return replaced_by_force(tree[0], index - 1, other), tree[1]
    return tree[0], replaced_by_force(tree[1], index - 1 - many, other)


def substituted_by_force(tree, terms):
    if isinstance(tree, str):
        return terms.get(tree, tree)
    return "*" + substituted_by_force(tree[0], terms) + substituted_by_force(tree[1], terms)


def text_by_force(tree):
    if isinstance(tree, str):
        return tree
    return "*".join(text_by_force(side) if isinstance(side, str) else "(" + text_by_force(side) + ")" for side in tree)


def value_by_force(web, tree, values):
    if isinstance(tree, str):
        return values[tree]
    one, other = value_by_force(web, tree[0], values), value_by_force(web, tree[1], values)
    return [place for place in web.rows[one] if other in web.rows[place]][0]


def matches_by_force(pattern, term, found):
    if isinstance(pattern, str):
        return found.setdefault(pattern, term) == term
    return not isinstance(term, str) and all(matches_by_force(one, other, found) for one, other in zip(pattern, term))


class Terms(Case):
    def test_all_strings(self):
        for size in range(8):
            for signs in itertools.product("*ab" if size < 7 else "*a", repeat=size):
                value = "".join(signs)
                self.assertIs(is_term(value), read_tree(value) is not None)

    def test_small_terms(self):
        for term in SMALL:
            tree = read_tree(term)
            self.assertIs(is_term(term), True)
            self.assertSame(size_of(term), size_by_force(tree))
            self.assertSame(levels_of(term), levels_by_force(tree))
            self.assertSame(letters_of(term), tuple(sorted(set(term) - {"*"})))
            self.assertSame(mirrored(term), write_tree(mirror_by_force(tree)))
            self.assertSame([part_at(term, index) for index in range(len(term))], [write_tree(part) for part in parts_by_force(tree)])
            self.assertSame(text_of(term), text_by_force(tree))
            self.assertSame(read_text(text_of(term)), term)
            if len(term) > 1:
                self.assertSame(sides_of(term), (write_tree(tree[0]), write_tree(tree[1])))
                self.assertSame(product_of(*sides_of(term)), term)
            else:
                self.assertRaisesJust(InvalidOperation, sides_of, term)

    def test_replaced(self):
        for term in SMALL[::3]:
            for index in range(len(term)):
                for other in ("a", "*ba", "**xy*yz", part_at(term, index)):
                    self.assertSame(replaced(term, index, other), write_tree(replaced_by_force(read_tree(term), index, read_tree(other))))

    def test_substituted(self):
        for term in SMALL[::2]:
            for terms in ({}, {"a": "b"}, {"a": "b", "b": "a"}, {"a": "*ab", "b": "*ca"}, {"c": "*cc", "z": "*xy"}, {"b": WHOLE}):
                self.assertSame(substituted(term, terms), substituted_by_force(read_tree(term), terms))

    def test_matched(self):
        patterns = [term for term in SMALL if len(term) < 8]
        for pattern in patterns[::2]:
            for term in patterns:
                found = {}
                right = matches_by_force(read_tree(pattern), read_tree(term), found)
                wanted = {letter: write_tree(found[letter]) for letter in sorted(found)} if right else None
                self.assertSame(matched(pattern, term), wanted)
                if right:
                    self.assertEqual(substituted(pattern, wanted), term)
        self.assertSame(list(matched("*zy", "*ab")), ["y", "z"])
        self.assertSame([matched("a", WHOLE), matched(WHOLE, "a"), matched("*aa", "*bb"), matched("*aa", "*bc")], [{"a": WHOLE}, None, {"a": "b"}, None])

    def test_great_terms(self):
        self.assertEqual(MAX_LETTERS, 200)
        for term in great_terms():
            self.assertIs(is_term(term), True)
            self.assertSame(size_of(term), 200)
            self.assertSame(letters_of(term), tuple(sorted(set(term) - {"*"})))
            self.assertSame(mirrored(mirrored(term)), term)
            self.assertSame(read_text(text_of(term)), term)
            self.assertSame(matched(term, term), {letter: letter for letter in letters_of(term)})
            self.assertSame(matched("z", term), {"z": term})
            left, right = sides_of(term)
            self.assertSame(product_of(left, right), term)
            self.assertSame(part_at(term, 0), term)
            self.assertSame(part_at(term, 1), left)
            self.assertSame(part_at(term, 1 + len(left)), right)
            for index in (0, 1, 200, 398):
                part = part_at(term, index)
                self.assertSame(replaced(term, index, part), term)
                self.assertSame(term[index:index + len(part)], part)
            self.assertSame(replaced(term, 0, term), term)
            self.assertSame(substituted(term, {"a": "b", "b": "a"}), term.translate({97: "b", 98: "a"}))
            self.assertSame(value_of(FOUR, term, dict.fromkeys(LETTERS, 3)), 3)
            self.assertIs(levels_of(term).__class__, int)
        self.assertSame([levels_of(left_comb("a", 200)), levels_of(right_comb("a", 200)), levels_of("a")], [199, 199, 0])
        self.assertSame(mirrored(left_comb("ab", 200)), right_comb("ba", 200))

    def test_too_many_letters(self):
        great = left_comb("ab", 200)
        less = left_comb("ab", 199)
        self.assertSame(size_of(product_of(less, "a")), 200)
        self.assertSame(size_of(replaced(less, 397 - 198, "*ab")), 200)
        self.assertSame(size_of(substituted("*aa", {"a": left_comb("c", 100)})), 200)
        for call, given in ((product_of, (great, "a")), (product_of, ("a", great)), (product_of, (great, great)), (replaced, (great, 398, "*ab")),
                            (replaced, (great, 198, great)), (substituted, (great, {"a": "*ab"})), (substituted, (great, {"a": great, "b": great})),
                            (substituted, ("*aa", {"a": left_comb("c", 101)})), (substituted, ("*ab", {"b": great}))):
            self.assertEqual(self.assertRaisesJust(TooMany, call, *given).limit, 200)
        self.assertSame(substituted(great, {"c": great}), great)


class Listed(Case):
    def test_by_force(self):
        for letters, most in (("a", 8), ("ab", 6), ("xyz", 5), ("acz", 4), (LETTERS, 2)):
            for size in range(1, most + 1):
                wanted = all_terms(letters, size)
                self.assertSame(list(each_term(letters, size)), wanted)
                self.assertSame(count_terms(letters, size), len(wanted))

    def test_great(self):
        for letters in ("a", "ab", "qz", LETTERS):
            for size in (50, 199, 200):
                found = list(itertools.islice(each_term(letters, size), 300))
                self.assertEqual(found, sorted(set(found)))
                self.assertTrue(all(is_term(term) and size_of(term) == size and set(term) <= set(letters) | {"*"} for term in found))
                self.assertSame(found[0], "*" * (size - 1) + letters[0] * size)
                catalan = math.factorial(2 * size - 2) // math.factorial(size - 1) // math.factorial(size)
                self.assertTrue(count_terms(letters, size) == catalan * len(letters) ** size)

    def test_wrong(self):
        right = ("a", "z", "ab")
        wrong = without(ANY_KIND, *right) + ("aa", "ba", "aB", "a b", "*", "a*", "az ", LETTERS + "z", "abcb", "aA", LETTERS[::-1], ["a"], ("a", "b"))
        rules = (0, wrong, InvalidOperation, None), number_rule(1, 1, 200)
        for call in (count_terms, first_term):
            self.assertRefusals(call, ("ab", 3), *rules)
        found = each_term("ba", 201)
        self.assertRaisesJust(InvalidOperation, next, found)


class Values(Case):
    def test_by_force(self):
        draw = random.Random(14)
        for web in (FOUR, NINE, LOOP, NINE.turned(), product(FOUR, FOUR), word_web(5, 2), word_web(16, 2)):
            for _ in range(40):
                term = drawn_term(draw, "abcxyz", draw.randrange(1, 15))
                values = {letter: draw.randrange(len(web)) for letter in "zyxcba"}
                self.assertSame(value_of(web, term, values), value_by_force(web, read_tree(term), values))
            if len(web) < 17:
                for one, other in itertools.product(range(len(web)), repeat=2):
                    self.assertSame(value_of(web, "*pq", {"q": other, "p": one}), between(web, one, other))

    def test_wrong_values(self):
        wrong = without(ANY_KIND, {}) + ({"x": 0}, {}, {"x": 0, "y": 4}, {"x": -1, "y": 0}, {"x": 0, "y": True}, {"x": False, "y": 1}, {"x": 0, "y": LONG},
                                         {"x": 0, "y": "1"}, {"x": 0, "y": 0, "xy": 0}, {"x": 0, "y": 0, "A": 1}, {"x": 0, "y": 0, "": 1}, {"x": 0, "y": 0, 3: 1},
                                         {"x": 0, "y": 0, "z": None}, {"x": 0, "y": 0, "z": 4}, {"x": 0, "y": 0, None: 0}, [("x", 0), ("y", 0)], {"x": (0,), "y": 0},
                                         {"x": 0, "y": 0, "*": 0}, {"x": 0, "y": 0, ("x",): 0})
        for web in (FOUR, BENT):
            self.assertRefusals(value_of, (web, "*xy", {"x": 0, "y": 1}), web_rule(), rule(1), (2, wrong, InvalidOperation, None))
        for web in (BENT, BARE, DEEP, FULL):
            self.assertRefused(NotLone, "reason", 2, value_of, web, "*xy", {"x": 0, "y": 1})
        self.assertSame(value_of(FOUR, "*xy", {"x": 0, "y": 1, "z": 3, "a": 0}), 0)
        self.assertRaisesJust(InvalidWeb, value_of, None, None, None)


class Texts(Case):
    def test_one_sign_changed(self):
        for term in [term for term in SMALL if len(term) < 10][::4] + ["**xy*yz", "*a*b*c*de", "*****abcdef"]:
            text = text_of(term)
            for value in spoilt(text, "ab*() z"):
                tree = tree_of_text(value)
                if tree is None:
                    self.assertIs(self.assertRaisesJust(ParseError, read_text, value).line, None)
                else:
                    self.assertSame(read_text(value), write_tree(tree))

    def test_no_texts(self):
        great = text_of(left_comb("a", 200))
        self.assertEqual(len(great), 795)
        for value in without(ANY_KIND, "a", "z") + (
                "(a)", "(a*b)", "((a*b)*c)", "(a*b)*(c)", "a*b*c", "a*(b)", "ab", "*ab", "a*", "*a", "()", "(", ")", "a*b)", "(a*b", "a *b", "a* b", " a", "a ",
                "a\n", "(a*b)(c*d)", "a**b", "((a*b))*c", "(a*b)*c*d", "A", "a*B", ")a*b(", "a)*b", "(*)", "a*(b*c", "a*b*(c*d)", ")))))", "((((", "a*(*b*c)",
                "(" + great + ")*a", "(" + great[:-2] + ")*a*a", great + "*a", "(" * 4000 + "a" + ")" * 3999, ")" * 8000, "(a" * 300, "a)" * 300, "*" * 795,
                "(((b*c*d)", "(((b*c)", "b*(c*d)*"):
            self.assertIs(self.assertRaisesJust(ParseError, read_text, value).line, None)
        self.assertSame(read_text(great), left_comb("a", 200))
        # One letter more than terms have.
        self.assertRaisesJust(ParseError, read_text, text_by_force(read_tree(left_comb("a", 201))))
        self.assertRaisesJust(ParseError, read_text, text_by_force(read_tree(right_comb("ab", 201))))

    def test_all_texts(self):
        for size in range(6):
            for signs in itertools.product("ab*()", repeat=size):
                text = "".join(signs)
                tree = tree_of_text(text)
                if tree is None:
                    self.assertRaisesJust(ParseError, read_text, text)
                else:
                    self.assertSame(read_text(text), write_tree(tree))


def tree_of_text(text):
    """Read a text by trying all stars in it: each side is a letter, or a product in brackets."""
    if len(text) == 1:
        return text if text in LETTERS else None
    for at, sign in enumerate(text):
        if sign == "*":
            sides = [side_of_text(part) for part in (text[:at], text[at + 1:])]
            if None not in sides:
                return tuple(sides)
    return None


def side_of_text(text):
    if len(text) == 1:
        return tree_of_text(text)
    if text[:1] == "(" and text[-1:] == ")" and len(text) > 3:
        return tree_of_text(text[1:-1])
    return None


class Wrong(Case):
    def test_judged(self):
        self.assertJudges(is_term, (), NO_TERMS)
        self.assertIs(is_term("a"), True)

    def test_terms(self):
        for call in (size_of, letters_of, levels_of, sides_of, mirrored, text_of):
            self.assertRefusals(call, (WHOLE,), rule())
        for call in (product_of, matched):
            self.assertRefusals(call, (WHOLE, "a"), rule(), rule(1))

    def test_indexes(self):
        index = number_rule(1, 0, 6)
        self.assertRefusals(part_at, (WHOLE, 0), rule(), index)
        self.assertRefusals(replaced, (WHOLE, 0, "a"), rule(), index, rule(2))
        self.assertRefused(InvalidNumber, "value", 1, part_at, "a", 1)
        # The term, the index, the other term, and then the size.
        great = left_comb("a", 200)
        self.assertRaisesJust(InvalidNumber, replaced, great, 399, left_comb("a", 201))
        self.assertRaisesJust(InvalidTerm, replaced, great, 398, left_comb("a", 201))
        self.assertRaisesJust(TooMany, replaced, great, 398, great)

    def test_dicts_of_terms(self):
        wrong = without(ANY_KIND, {}) + ({"x": "*"}, {"x": None}, {"x": 1}, {"xy": "a"}, {"*": "a"}, {"X": "a"}, {"": "a"}, {1: "a"}, {None: "a"}, {"x": "a", "y": "ab"},
                                         {"q": ""}, {("x",): "a"}, {"x": ["a"]}, [("x", "a")], {"x": left_comb("a", 201)}, {"q": "*a"})
        self.assertRefusals(substituted, (WHOLE, {"x": "a"}), rule(), rule(1, wrong))


if __name__ == "__main__":
    unittest.main()
