"""Terms that the tests use, and what the tests know of terms by themselves."""

import functools
import random

LETTERS = "abcdefghijklmnopqrstuvwxyz"


def read_tree(term):
    """Return a term as a letter or a pair of trees, and None for what is no term; sizes play no part."""
    trees = []
    for sign in reversed(term):
        if sign == "*":
            if len(trees) < 2:
                return None
            trees.append((trees.pop(), trees.pop()))
        elif len(sign) == 1 and sign in LETTERS:
            trees.append(sign)
        else:
            return None
    return trees[0] if len(trees) == 1 else None


def write_tree(tree):
    """Return the term of a tree that is not deep."""
    return tree if isinstance(tree, str) else "*" + write_tree(tree[0]) + write_tree(tree[1])


@functools.lru_cache(maxsize=None)
def trees_of(letters, size):
    """Return all trees of a size with some letters."""
    if size == 1:
        return tuple(letters)
    return tuple((left, right) for many in range(1, size) for left in trees_of(letters, many) for right in trees_of(letters, size - many))


def all_terms(letters, size):
    return sorted(write_tree(tree) for tree in trees_of(letters, size))


def drawn_term(draw, letters, size):
    """Return a drawn term of a size."""
    if size == 1:
        return draw.choice(letters)
    # Sizes of the sides at the ends make deep terms.
    many = draw.choice((1, size - 1, draw.randrange(1, size), draw.randrange(1, size)))
    return "*" + drawn_term(draw, letters, many) + drawn_term(draw, letters, size - many)


def left_comb(letters, size):
    """Return the term with all products at the left sides."""
    return "*" * (size - 1) + "".join(letters[index % len(letters)] for index in range(size))


def right_comb(letters, size):
    """Return the term with all products at the right sides."""
    signs = [letters[index % len(letters)] for index in range(size)]
    return "".join("*" + sign for sign in signs[:-1]) + signs[-1]


def great_terms():
    """Return terms of 200 letters of many forms."""
    draw = random.Random(200)
    found = [left_comb("a", 200), right_comb("a", 200), left_comb("abc", 200), right_comb("xyz", 200), left_comb(LETTERS, 200)]
    found.append("".join("*" + part for part in [left_comb("ab", 20)] * 9) + right_comb("ba", 20))
    found.extend(drawn_term(draw, letters, 200) for letters in ("a", "ab", "abc", LETTERS) for _ in range(3))
    return found


def spoilt(text, signs):
    """Return all texts with one sign of a text changed, put in or left out."""
    found = set()
    for at in range(len(text) + 1):
        found.add(text[:at] + text[at + 1:])
        for sign in signs:
            found.add(text[:at] + sign + text[at:])
            found.add(text[:at] + sign + text[at + 1:])
    return sorted(found - {text})
