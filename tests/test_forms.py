"""Forms and equality: stage 15."""

import functools
import itertools
import random
import time
import unittest

from onebetween.errors import InvalidNumber, InvalidOperation, InvalidTerm, InvalidWeb, NotLone, TooMany
from onebetween.terms.forms import (
    MAX_CHAIN, MAX_VALUES, are_equal, are_equal_in_words, between_forms, each_form, equality_paper, form_chain, form_of, holds_in,
    is_equality_paper, is_form, is_tied_form, parting_values, steps_down, word_ends,
)
from onebetween.terms.terms import mirrored, size_of
from onebetween.webs.making import all_ties, product, word_web
from tests.cases import Case
from tests.some_terms import LETTERS, all_terms, drawn_term, great_terms, left_comb, read_tree, right_comb, write_tree
from tests.some_webs import BARE, DEEP, DOT, FULL, LOOP
from tests.test_terms import NO_TERMS, rule
from tests.wrong_values import ANY_KIND, BENT, FOUR, NINE, number_rule, web_rule, without

SMALL = [term for letters, sizes in (("a", 8), ("ab", 6), ("abc", 5)) for size in range(1, sizes) for term in all_terms(letters, size)]


def first_form(*given):
    return next(each_form(*given))


def rules_by_force(tree):
    """Return what the rules make of a whole term, as they stand in the document."""
    found = []
    match tree:
        case ((x, y), (other, z)) if y == other:
            found.append((1, y))
    match tree:
        case (x, ((other, y), z)) if x == other:
            found.append((2, (x, y)))
    match tree:
        case ((x, (y, z)), other) if z == other:
            found.append((3, (y, z)))
    return found


def steps_by_force(tree, index=0):
    """Return all steps down of a tree as triples of index, rule and tree."""
    found = [(index, rule, result) for rule, result in rules_by_force(tree)]
    if isinstance(tree, str):
        return found
    left, right = tree
    found.extend((at, rule, (result, right)) for at, rule, result in steps_by_force(left, index + 1))
    found.extend((at, rule, (left, result)) for at, rule, result in steps_by_force(right, index + 1 + len(write_tree(left))))
    return found


@functools.lru_cache(maxsize=None)
def forms_by_force(tree):
    """Return all terms without a step down to which steps lead, whatever steps are taken."""
    steps = steps_by_force(tree)
    if not steps:
        return frozenset([write_tree(tree)])
    return frozenset().union(*[forms_by_force(result) for _, _, result in steps])


def form_by_force(term):
    found, = forms_by_force(read_tree(term))
    return found


def is_step(high, low):
    return any(write_tree(result) == low for _, _, result in steps_by_force(read_tree(high)))


def ends_by_force(tree):
    """Return the ends by the letters of the values."""
    if isinstance(tree, str):
        return (tree, 0), (tree, 1)
    return ends_by_force(tree[0])[1], ends_by_force(tree[1])[0]


def value_by_force(web, tree, values):
    if isinstance(tree, str):
        return values[tree]
    one, other = value_by_force(web, tree[0], values), value_by_force(web, tree[1], values)
    return [place for place in web.rows[one] if other in web.rows[place]][0]


def parting_by_force(web, one, other):
    letters = sorted(set(one + other) - {"*"})
    for places in itertools.product(range(len(web)), repeat=len(letters)):
        values = dict(zip(letters, places))
        if value_by_force(web, read_tree(one), values) != value_by_force(web, read_tree(other), values):
            return values
    return None


def grown(draw, term, size, letters="ab"):
    """Return a term of at most this size that steps down lead to the term, by steps up."""
    while True:
        at = draw.randrange(len(term))
        many, end = 1, at
        while many:
            many += 1 if term[end] == "*" else -1
            end += 1
        part = term[at:end]
        more = [draw.choice(letters), draw.choice(letters)]
        kind = draw.randrange(3)
        made = f"**{more[0]}{part}*{part}{more[1]}"
        if kind and part[0] == "*":
            left_end = 1
            many = 1
            while many:
                many += 1 if part[left_end] == "*" else -1
                left_end += 1
            left, right = part[1:left_end], part[left_end:]
            made = f"*{left}*{part}{more[0]}" if kind == 1 else f"**{more[0]}{part}{right}"
        if (len(term) - len(part) + len(made) + 1) // 2 > size:
            return term
        term = term[:at] + made + term[end:]


class Steps(Case):
    def test_by_force(self):
        for term in SMALL:
            wanted = sorted((index, rule, write_tree(result)) for index, rule, result in steps_by_force(read_tree(term)))
            self.assertSame(steps_down(term), tuple(wanted))
            self.assertIs(is_form(term), not wanted)
            self.assertSame(form_of(term), form_by_force(term))

    def test_each_rule(self):
        for x, y, z in itertools.product(("a", "b", "*ab", "*a*bc", "**abc"), repeat=3):
            self.assertIn((0, 1, y), steps_down(f"**{x}{y}*{y}{z}"))
            self.assertIn((0, 2, f"*{x}{y}"), steps_down(f"*{x}**{x}{y}{z}"))
            self.assertIn((0, 3, f"*{y}{z}"), steps_down(f"**{x}*{y}{z}{z}"))

    def test_chains(self):
        draw = random.Random(15)
        terms = SMALL[::5] + great_terms() + [grown(draw, draw.choice(("a", "*ab", "*a*ba")), 200) for _ in range(6)]
        for term in terms:
            chain = form_chain(term)
            self.assertIs(chain.__class__, tuple)
            self.assertEqual((chain[0], chain[-1]), (term, form_of(term)))
            self.assertIs(is_form(chain[-1]), True)
            self.assertLessEqual(len(chain), 400)
            for high, low in zip(chain, chain[1:]):
                self.assertIn(low, [result for _, _, result in steps_down(high)])

    def test_grown_terms(self):
        draw = random.Random(151)
        for term in ("a", "*ab", "*a*ba", "**abc", "***abca"):
            for size in (10, 40, 200):
                for _ in range(4):
                    great = grown(draw, term, size)
                    self.assertEqual(form_of(great), term)
                    self.assertEqual(form_of(mirrored(great)), form_of(mirrored(term)))
                    self.assertIs(is_form(great), great == term)
                    self.assertIs(are_equal(great, term), True)

    def test_great_terms_come_within_short_time(self):
        begin = time.process_time()
        for term in great_terms():
            form = form_of(term)
            self.assertEqual(form_of(form), form)
            self.assertSame(steps_down(form), ())
            self.assertEqual(is_form(term), form == term)
        self.assertLess(time.process_time() - begin, 5)


class Equality(Case):
    def test_by_force(self):
        terms = [term for letters, size in (("a", 4), ("ab", 3), ("abc", 3)) for many in range(1, size + 1) for term in all_terms(letters, many)]
        for one, other in itertools.product(terms[::2], terms):
            right = form_by_force(one) == form_by_force(other)
            self.assertIs(are_equal(one, other), right)
            self.assertIs(are_equal_in_words(one, other), ends_by_force(read_tree(one)) == ends_by_force(read_tree(other)))
            # What is equal in all lone webs is so in word webs.
            self.assertTrue(not right or are_equal_in_words(one, other))

    def test_papers(self):
        draw = random.Random(16)
        pairs = [(draw.choice(SMALL), draw.choice(SMALL)) for _ in range(200)]
        pairs.extend((grown(draw, term, 200), grown(draw, term, 200)) for term in ("a", "b", "*ab", "**abc"))
        pairs.extend((grown(draw, "a", 200), grown(draw, other, 200)) for other in ("b", "*ab"))
        pairs.extend(itertools.combinations(great_terms(), 2))
        pairs.extend((term, term) for term in great_terms()[:3] + ["a", "**ab*bc"])
        for one, other in pairs:
            paper = equality_paper(one, other)
            self.assertIs(paper.__class__, tuple)
            self.assertEqual(paper[0], "equal" if form_of(one) == form_of(other) else "unequal")
            self.assertEqual(len(paper), 2 if paper[0] == "equal" else 3)
            self.assertTrue(all(1 <= len(chain) <= 400 for chain in paper[1:]))
            self.assertIs(is_equality_paper(one, other, paper), True)
            if one != other:
                self.assertIs(is_equality_paper(other, one, paper), False)

    def test_changed_papers(self):
        for one, other in (("**ab*bc", "**db*bd"), ("*a**ab*ca", "*ab"), ("*a**abc", "**c*bac"), ("**ab*bc", "*b**bab"), ("a", "b"), ("a", "a")):
            paper = equality_paper(one, other)
            chains = [chain for at in (1, 2) if len(paper) > at for chain in [(at, paper[at])]]
            for at, chain in chains:
                for index in range(len(chain) + 1):
                    changes = [chain[:index] + chain[index + 1:], chain[:index] + chain[index:index + 1] * 2 + chain[index + 1:]]
                    changes.extend(chain[:index] + (term,) + chain[index + 1:] for term in ("a", "b", "c", "*ab", "**ab*bc", "*", None, 1, ("a",)))
                    changes.extend(chain[:index] + (term,) + chain[index:] for term in ("a", "b", "*ab", "**cb*bc", "**ab*bb"))
                    for changed in changes:
                        value = paper[:at] + (changed,) + paper[at + 1:]
                        self.assertIs(is_equality_paper(one, other, value), self.judged(one, other, value))

    def judged(self, one, other, value):
        """Judge a paper that has the form ("equal", tuple) or ("unequal", tuple, tuple)."""
        for chain in value[1:]:
            if not 1 <= len(chain) <= 400 or not all(isinstance(term, str) and read_tree(term) is not None for term in chain):
                return False
        if value[0] == "equal":
            chain = value[1]
            joined = all(is_step(high, low) or is_step(low, high) for high, low in zip(chain, chain[1:]))
            return (chain[0], chain[-1]) == (one, other) and joined
        for term, chain in ((one, value[1]), (other, value[2])):
            if chain[0] != term or steps_by_force(read_tree(chain[-1])) or not all(map(is_step, chain, chain[1:])):
                return False
        return value[1][-1] != value[2][-1]

    def test_papers_of_other_kinds(self):
        one, other = "**ab*bc", "**db*bd"
        right = ("equal", (one, "b", other))
        self.assertIs(is_equality_paper(one, other, right), True)
        # Steps of an equal paper can go up between, and come back.
        self.assertIs(is_equality_paper(one, other, ("equal", (one, "b", one, "b", other))), True)
        self.assertIs(is_equality_paper("b", "b", ("equal", ("b",))), True)
        self.assertIs(is_equality_paper("b", "b", ("equal", ("b", other, "b"))), True)
        self.assertIs(is_equality_paper("b", "b", ("equal", ("b", "b"))), False)
        self.assertIs(is_equality_paper(one, "d", ("unequal", (one, "b"), ("d",))), True)
        for value in (list(right), ("equal", list(right[1])), right + right[1:], ("unequal",) + right[1:], ("equal",), ("unequal", (one, "b"), (other, "b")),
                      ("equal", ()), ("equal", (one, other)), ("equal", (one, "b")), ("equal", ("b", other)), ("equal", (one, "b", None)), ("equal", right),
                      (b"equal", right[1]), (None, right[1]), ("Equal", right[1]), right[1], ("equal", "b"), ("equal", one), (FOUR, right[1])):
            self.assertIs(is_equality_paper(one, other, value), False)
        for value in (("unequal", (one,), ("d",)), ("unequal", (one, "b"), ("d", "d")), ("unequal", ("b",), ("d",)), ("unequal", (one, "b"), ()),
                      ("unequal", (one, "b"), ["d"]), ("unequal", (one, "b", one, "b"), ("d",)), ("unequal", (one, "b"), ("d", "**ad*da", "d")),
                      ("unequal", (one, "b"), ("d",), ()), ("unequal", (one, "b"), ("d",), ("d",)), ("unequal", (one, "b")),
                      ("unequal", ("d",), (one, "b")), ("equal", (one, "b"), ("d",))):
            self.assertIs(is_equality_paper(one, "d", value), False)
        self.assertJudges(is_equality_paper, ("a", "a"), ANY_KIND)

    def test_chains_of_400_terms(self):
        self.assertEqual(MAX_CHAIN, 400)
        one = "**ab*bc"
        for many in (399, 400, 401, 402):
            chain = (one, "b") * (many // 2) + (one,) * (many % 2)
            self.assertIs(is_equality_paper(one, chain[-1], ("equal", chain)), many <= 400)
        great = grown(random.Random(1), "a", 200)
        chain = form_chain(great)
        value = chain + chain[-2::-1]
        self.assertIs(is_equality_paper(great, great, ("equal", value)), True)
        begin = time.process_time()
        value = value + ((chain[1], great) * 200)[:400 - len(value)]
        self.assertEqual(len(value), 400)
        self.assertIs(is_equality_paper(great, value[-1], ("equal", value)), True)
        self.assertLess(time.process_time() - begin, 10)

    def test_word_ends(self):
        for term in SMALL + [term for term in great_terms()[5:]]:
            self.assertSame(word_ends(term), ends_by_force(read_tree(term)))
        for letters in ("ab", "xyz"):
            for term in (left_comb(letters, 200), right_comb(letters, 200)):
                self.assertSame(word_ends(term), ends_by_force(read_tree(term)))


class Values(Case):
    def test_by_force(self):
        draw = random.Random(17)
        for web, letters in ((FOUR, "abcd"), (NINE, "xyz"), (word_web(3, 2), "ab"), (LOOP, "abc"), (product(FOUR, FOUR), "pq"), (NINE.turned(), "az")):
            for _ in range(60):
                one = drawn_term(draw, letters, draw.randrange(1, 8))
                other = draw.choice((drawn_term(draw, letters, draw.randrange(1, 8)), grown(draw, form_of(one), size_of(one) + 4, letters)))
                wanted = parting_by_force(web, one, other)
                self.assertSame(parting_values(web, one, other), wanted)
                self.assertIs(holds_in(web, one, other), wanted is None)
                if are_equal(one, other):
                    self.assertIs(wanted, None)

    def test_words(self):
        # What holds in a word web of enough letters, holds in all of them.
        draw = random.Random(18)
        for _ in range(60):
            one, other = drawn_term(draw, "abc", draw.randrange(1, 6)), drawn_term(draw, "abc", draw.randrange(1, 6))
            self.assertIs(holds_in(word_web(3, 2), one, other), are_equal_in_words(one, other))

    def test_letters_that_the_forms_have_not(self):
        self.assertSame(parting_values(FOUR, "**ax*xb", "y"), {"a": 0, "b": 0, "x": 0, "y": 1})
        self.assertSame(parting_values(FOUR, "**xa*ay", "**yb*bx"), {"a": 0, "b": 1, "x": 0, "y": 0})
        self.assertSame(parting_values(FOUR, "**xb*by", "b"), None)
        self.assertSame(list(parting_values(FOUR, "z", "y")), ["y", "z"])

    def test_too_many(self):
        self.assertEqual(MAX_VALUES, 20000)
        # 20736 dicts of three letters would be more; 14641 and 15625 are not.
        for web, one, other in ((word_web(11, 2), "a", "b"), (word_web(5, 2), "*ab", "c"), (FOUR, "*a*b*cd", "*e*fg")):
            self.assertIs(holds_in(web, one, other), False)
        for web, one, other in ((word_web(12, 2), "a", "b"), (word_web(16, 2), "*ab", "*ab"), (FOUR, "*a*b*c*d*e*f*gh", "a"), (word_web(5, 2), "*ab", "*cd"),
                                (word_web(12, 2), "**ab*ba", "b")):
            for call in (parting_values, holds_in):
                self.assertEqual(self.assertRaisesJust(TooMany, call, web, one, other).limit, 20000)
        self.assertSame(parting_values(word_web(16, 2), "a", "*aa"), {"a": 1})
        self.assertSame(parting_values(LOOP, "".join("*" + letter for letter in LETTERS[1:]) + "a", "b"), None)

    def test_great_terms(self):
        begin = time.process_time()
        draw = random.Random(19)
        for web, letters in ((word_web(11, 2), "ab"), (word_web(5, 2), "abc"), (FOUR, "abcdefg"), (word_web(16, 2), "z")):
            one, other = drawn_term(draw, letters, 200), drawn_term(draw, letters, 200)
            found = parting_values(web, one, other)
            if found is not None:
                self.assertNotEqual(value_by_force(web, read_tree(one), found), value_by_force(web, read_tree(other), found))
            self.assertIs(holds_in(web, one, grown(draw, one, 200)), True)
        self.assertLess(time.process_time() - begin, 20)


class Forms(Case):
    def test_between_forms(self):
        forms = sorted({term for term in SMALL if len(term) < 8 and not steps_by_force(read_tree(term))})
        for one, other in itertools.product(forms[::3], forms):
            self.assertSame(between_forms(one, other), form_by_force("*" + one + other))
            middle = form_by_force("*" + other + other)
            self.assertIs(is_tied_form(one, other), form_by_force("*" + one + middle) == other)
        # All forms are a lone web: the place between is tied, and the only one.
        few = forms[:7]
        for one, other in itertools.product(few, repeat=2):
            middle = between_forms(one, other)
            self.assertIs(is_tied_form(one, middle), True)
            self.assertIs(is_tied_form(middle, other), True)
            self.assertEqual([some for some in forms if is_tied_form(one, some) and is_tied_form(some, other)], [middle] if middle in forms else [])

    def test_limits(self):
        form = form_of(left_comb("abc", 200))
        self.assertSame((size_of(form), is_form(form)), (200, True))
        less, half, third = [left_comb("abc", many) for many in (199, 100, 66)]
        self.assertSame(between_forms(less, "a"), form_of("*" + less + "a"))
        self.assertSame(between_forms(half, half), form_of("*" + half + half))
        self.assertIs(is_tied_form(left_comb("abc", 68), third), form_of("*" + left_comb("abc", 68) + form_of("*" + third * 2)) == third)
        self.assertIs(is_tied_form("a", left_comb("abc", 99)), False)
        for call, one, other in ((between_forms, form, "a"), (between_forms, "a", form), (is_tied_form, less, "a"), (is_tied_form, "a", half), (is_tied_form, form, form)):
            self.assertEqual(self.assertRaisesJust(TooMany, call, one, other).limit, 200)
        self.assertIs(is_tied_form(left_comb("abc", 198), "a"), False)
        # What is no form is refused ahead of the size, and what is no term ahead of that.
        for call in (between_forms, is_tied_form):
            for one, other in ((form, "**ab*bc"), ("**ab*bc", form), ("*a**abc", "a"), ("a", "**a*bcc"), (right_comb("a", 200), right_comb("a", 199) + "a")):
                self.assertRaisesJust(InvalidTerm, call, one, other)

    def test_each_form(self):
        for letters, most in (("a", 6), ("ab", 6), ("z", 6), ("abc", 4), ("xyz", 4), ("ac", 5)):
            for size in range(1, most + 1):
                wanted = [term for term in all_terms(letters, size) if not steps_by_force(read_tree(term))]
                self.assertSame(list(each_form(letters, size)), wanted)
        found = list(each_form("abc", 6))
        self.assertEqual(found, sorted(set(found)))
        self.assertTrue(all(is_form(term) for term in found))
        self.assertEqual(len(found), sum(1 for term in all_terms("abc", 6) if is_form(term)))

    def test_wrong(self):
        wrong = without(ANY_KIND, "a", "z") + ("aa", "ba", "abcd", "aB", "a b", "*", "ab ", LETTERS, ["a"], ("a", "b"), "abb")
        self.assertRefusals(first_form, ("ab", 3), (0, wrong, InvalidOperation, None), number_rule(1, 1, 6))
        self.assertRaisesJust(InvalidNumber, next, each_form("abc", 7))


class Wrong(Case):
    def test_terms(self):
        for call in (steps_down, form_of, form_chain, word_ends):
            self.assertRefusals(call, ("**ab*bc",), rule())
        for call in (are_equal, equality_paper, are_equal_in_words, between_forms, is_tied_form):
            self.assertRefusals(call, ("*ab", "b"), rule(), rule(1))
        self.assertRefusals(is_equality_paper, ("a", "b", None), rule(), rule(1))
        self.assertJudges(is_form, (), NO_TERMS)
        for web in (FOUR, BENT):
            for call in (parting_values, holds_in):
                self.assertRefusals(call, (web, "*ab", "b"), web_rule(), rule(1), rule(2))

    def test_order_of_errors(self):
        for call in (parting_values, holds_in):
            for web in (BENT, BARE, DOT, DEEP, FULL, all_ties(2)):
                self.assertRefused(NotLone, "reason", 2, call, web, "*a*b*c*d*e*fg", "h")
                self.assertRaisesJust(InvalidTerm, call, web, "*", "a")
            self.assertRaisesJust(InvalidWeb, call, None, "*", "*")


if __name__ == "__main__":
    unittest.main()
