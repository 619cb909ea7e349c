"""Terms: letters, and `*` with two terms behind it."""

from math import comb

from onebetween.base.numbers import raised
from onebetween.base.words import is_letter, is_within
from onebetween.errors import InvalidOperation, InvalidTerm, ParseError, TooMany
from onebetween.terms.parts import parts_of
from onebetween.webs.checks import check_lone, check_number, check_web
from onebetween.webs.steps import middle_of

MAX_LETTERS = 200

_ALPHABET = "abcdefghijklmnopqrstuvwxyz"

# The text of a term of MAX_LETTERS letters has 199 stars between them, and brackets around 198 products.
_LONGEST_TEXT = 795


def is_term(value):
    """Tell whether the value is a term."""
    if not isinstance(value, str) or not 1 <= len(value) < 2 * MAX_LETTERS:
        return False
    # How many terms are still missing.
    missing = 1
    for sign in value:
        if missing == 0:
            return False
        if sign == "*":
            missing += 1
        elif is_letter(sign):
            missing -= 1
        else:
            return False
    return missing == 0


def size_of(term):
    """Return how many letters a term has."""
    check_term(term)
    return _size(term)


def letters_of(term):
    """Return the ascending tuple of the different letters of a term."""
    check_term(term)
    return letters_in(term)


def levels_of(term):
    """Return how many products stand in one another, at most."""
    check_term(term)
    levels = []
    for sign in term[::-1]:
        if sign == "*":
            left = levels.pop()
            right = levels.pop()
            levels.append(1 + max(left, right))
        else:
            levels.append(0)
    return levels[0]


def part_at(term, index):
    """Return the part that begins at an index."""
    _check_index(term, index)
    return parts_of(term)[index].text


def replaced(term, index, other):
    """Return the term with another term in the place of the part at an index."""
    _check_index(term, index)
    check_term(other)
    part = parts_of(term)[index].text
    check_size(_size(term) - _size(part) + _size(other))
    return term[:index] + other + term[index + len(part):]


def sides_of(term):
    """Return the pair of both sides of a product."""
    check_term(term)
    whole = parts_of(term)[0]
    if whole.left is None:
        raise InvalidOperation("a letter has no sides")
    return whole.left.text, whole.right.text


def product_of(one, other):
    """Return the product of two terms."""
    check_term(one)
    check_term(other)
    check_size(_size(one) + _size(other))
    return "*" + one + other


def substituted(term, terms):
    """Return the term with terms in the place of some letters, all at once."""
    check_term(term)
    if not isinstance(terms, dict) or not all([is_letter(key) and is_term(value) for key, value in terms.items()]):
        raise InvalidTerm("the value is no dict from letters to terms")
    found = "".join([terms.get(sign, sign) for sign in term])
    check_size(_size(found))
    return found


def mirrored(term):
    """Return the term with both sides of each product exchanged."""
    check_term(term)
    terms = []
    for sign in term[::-1]:
        if sign == "*":
            left = terms.pop()
            right = terms.pop()
            terms.append("*" + right + left)
        else:
            terms.append(sign)
    return terms[0]


def matched(pattern, term):
    """Return the dict of terms for the letters of a pattern that make the term of it, None if there is none."""
    check_term(pattern)
    check_term(term)
    parts = parts_of(term)
    found = {}
    at = 0
    for sign in pattern:
        if sign == "*":
            if term[at] != "*":
                return None
            at += 1
        else:
            text = parts[at].text
            if found.setdefault(sign, text) != text:
                return None
            at = at + len(text)
    return {letter: found[letter] for letter in sorted(found)}


def count_terms(letters, size):
    """Return how many terms of a size there are with some letters."""
    _check_terms(letters, size)
    return raised(len(letters), size) * comb(2 * size - 2, size - 1) // size


def each_term(letters, size):
    """Yield all terms of a size with some letters, ascending."""
    _check_terms(letters, size)
    term = "*" * (size - 1) + letters[0] * size
    while term is not None:
        yield term
        term = _term_behind(term, letters)


def value_of(web, term, values):
    """Return the value of a term if its letters stand for places of a web that is lone of depth 2."""
    check_web(web)
    check_term(term)
    if not _are_values(web, term, values):
        raise InvalidOperation("the values are no dict from letters, those of the term among them, to places")
    check_lone(web, 2)
    return value_in(web, term, values)


def text_of(term):
    """Return the text of a term, with brackets around each product but the whole one."""
    check_term(term)
    return _text(term)


def read_text(text):
    """Return the term with a text."""
    if not isinstance(text, str) or len(text) > _LONGEST_TEXT:
        raise ParseError(None)
    # The terms and signs that are read, but for what they already made.
    read = []
    for sign in text:
        if sign == ")" and len(read) >= 4:
            left, right = read[-3], read[-1]
            read = read[:-4] + ["*" + left + right]
        else:
            read.append(sign)
    term = "*" + read[0] + read[2] if len(read) == 3 else "".join(read)
    # Signs in wrong places and superfluous brackets make no term, or one with another text.
    if not is_term(term) or _text(term) != text:
        raise ParseError(None)
    return term


def check_term(value):
    """Refuse what is no term."""
    if not is_term(value):
        raise InvalidTerm("the value is no term")


def check_size(size):
    """Refuse a term of so many letters if these are too many."""
    if size > MAX_LETTERS:
        raise TooMany(MAX_LETTERS)


def are_letters(value, most):
    """Tell whether the value is a string of ascending letters, and at least one and at most so many."""
    if not isinstance(value, str) or not 1 <= len(value) <= most:
        return False
    return all([is_letter(sign) for sign in value]) and all([low < high for low, high in zip(value, value[1:])])


def letters_in(text):
    """Return the ascending tuple of the different letters of a string."""
    return tuple([letter for letter in _ALPHABET if letter in text])


def value_in(web, term, values):
    """Return the value of a term in a web that is lone of depth 2, if its letters stand for places."""
    places = []
    for sign in term[::-1]:
        if sign == "*":
            left = places.pop()
            right = places.pop()
            places.append(middle_of(web, left, right))
        else:
            places.append(values[sign])
    return places[0]


def _check_index(term, index):
    """Refuse what is no term, and no index of it."""
    check_term(term)
    check_number(index, 0, len(term) - 1)


def _check_terms(letters, size):
    """Refuse what are no letters, and no size."""
    if not are_letters(letters, len(_ALPHABET)):
        raise InvalidOperation("these are no ascending letters")
    check_number(size, 1, MAX_LETTERS)


def _size(term):
    """Return how many letters a string of letters and stars has."""
    return len(term) - term.count("*")


def _are_values(web, term, values):
    """Tell whether these are a dict from letters, all those of a term among them, to places of a web."""
    if not isinstance(values, dict) or not all([is_letter(key) for key in values]):
        return False
    if not all([is_within(place, 0, len(web) - 1) for place in values.values()]):
        return False
    return all([sign == "*" or sign in values for sign in term])


def _term_behind(term, letters):
    """Return the next term of the same size with these letters, None if there is none."""
    # How many terms and how many stars there are from an index on.
    many = 0
    stars = 0
    for at in reversed(range(len(term))):
        sign = term[at]
        if sign == "*":
            many -= 1
            stars += 1
            higher = letters[0] if many > 1 else ""
        else:
            many += 1
            higher = letters[letters.index(sign) + 1:][:1]
        if higher != "":
            # What stands behind begins with all stars that are left.
            return term[:at] + higher + "*" * stars + letters[0] * (len(term) - at - 1 - stars)
    return None


def _text(term):
    """Return the text of a term."""
    texts = []
    for sign in term[::-1]:
        if sign == "*":
            left = texts.pop()
            right = texts.pop()
            texts.append(f"({left}*{right})")
        else:
            texts.append(sign)
    if len(texts[0]) > 1:
        return texts[0][1:-1]
    return texts[0]
