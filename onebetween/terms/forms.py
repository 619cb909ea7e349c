"""Steps down, forms, and papers that show whether terms are equal in all lone webs of depth 2."""

from onebetween.base.numbers import raised
from onebetween.errors import InvalidOperation, InvalidTerm, TooMany
from onebetween.lone.middles import middle_table
from onebetween.terms.parts import Part, form_of_product, form_part, joined, parts_of, rules_at
from onebetween.terms.terms import are_letters, check_size, check_term, is_term, letters_in, size_of
from onebetween.webs.checks import check_lone, check_number, check_web

MAX_CHAIN = 400
MAX_VALUES = 20000

# How many different letters, and how many in all, the forms that are told one by one can have.
_MAX_KINDS = 3
_MAX_SIZE = 6


def steps_down(term):
    """Return the ascending tuple of all steps down from a term, each one as (index, rule, result)."""
    check_term(term)
    return tuple(_steps_down(term))


def is_form(value):
    """Tell whether the value is a term without a step down."""
    return is_term(value) and form_part(value).text == value


def form_of(term):
    """Return the form to which steps down lead from a term."""
    check_term(term)
    return form_part(term).text


def form_chain(term):
    """Return a tuple of terms from a term to its form, by one step down each."""
    check_term(term)
    chain = [term]
    result = _last_step(term)
    while result is not None:
        chain.append(result)
        result = _last_step(result)
    return tuple(chain)


def are_equal(one, other):
    """Tell whether two terms are equal in all lone webs of depth 2."""
    check_term(one)
    check_term(other)
    return form_part(one).text == form_part(other).text


def equality_paper(one, other):
    """Return chains of terms that show whether two terms are equal."""
    first = form_chain(one)
    second = form_chain(other)
    if first[-1] == second[-1]:
        return "equal", first + second[:-1][::-1]
    return "unequal", first, second


def is_equality_paper(one, other, value):
    """Tell whether the value is a paper that shows whether two terms are equal."""
    check_term(one)
    check_term(other)
    if not isinstance(value, tuple) or len(value) < 2 or not all([_is_chain(chain) for chain in value[1:]]):
        return False
    if value[0] == "equal" and len(value) == 2:
        return _joins(one, other, value[1])
    if value[0] == "unequal" and len(value) == 3:
        return _leads_down(one, value[1]) and _leads_down(other, value[2]) and value[1][-1] != value[2][-1]
    return False


def word_ends(term):
    """Return the pairs of a letter and of 0 or 1 that tell the first and the second letter of the value."""
    check_term(term)
    return _word_ends(term)


def are_equal_in_words(one, other):
    """Tell whether two terms are equal in all word webs of depth 2."""
    check_term(one)
    check_term(other)
    return _word_ends(one) == _word_ends(other)


def parting_values(web, one, other):
    """Return the least dict from letters to places for which two terms have different values, None if there is none."""
    check_web(web)
    check_term(one)
    check_term(other)
    check_lone(web, 2)
    letters = letters_in(one + other)
    if raised(len(web), len(letters)) > MAX_VALUES:
        raise TooMany(MAX_VALUES)
    return _parting_values(web, form_part(one).text, form_part(other).text, letters)


def holds_in(web, one, other):
    """Tell whether two terms have the same value for all places of a web that is lone of depth 2."""
    return parting_values(web, one, other) is None


def between_forms(one, other):
    """Return the form between two forms."""
    first, second = _two_forms(one, other, 1)
    return form_of_product(first, second).text


def is_tied_form(one, other):
    """Tell whether the one form is tied to the other one."""
    first, second = _two_forms(one, other, 2)
    return form_of_product(first, form_of_product(second, second)).text == other


def each_form(letters, size):
    """Yield all forms of a size with some letters, ascending."""
    if not are_letters(letters, _MAX_KINDS):
        raise InvalidOperation("these are no one to three ascending letters")
    check_number(size, 1, _MAX_SIZE)
    forms = [[], [Part(letter, None, None) for letter in letters]]
    for many in range(2, size + 1):
        forms.append(_forms_of_size(forms, many))
    for form in forms[size]:
        yield form.text


def _steps_down(term):
    """Return the list of all steps down from a term, ascending."""
    steps = []
    for index, part in enumerate(parts_of(term)):
        for rule, result in rules_at(part):
            steps.append((index, rule, _with_result(term, index, part, result)))
    return steps


def _with_result(term, index, part, result):
    """Return the term with a result in the place of the part at an index."""
    return term[:index] + result.text + term[index + len(part.text):]


def _last_step(term):
    """Return the term behind a step down at the greatest index, None if there is no step down."""
    parts = parts_of(term)
    for index in reversed(range(len(parts))):
        for _, result in rules_at(parts[index]):
            return _with_result(term, index, parts[index], result)
    return None


def _is_chain(value):
    """Tell whether the value is a tuple of terms, of at least one and not too many."""
    return isinstance(value, tuple) and 1 <= len(value) <= MAX_CHAIN and all([is_term(term) for term in value])


def _is_step(high, low):
    """Tell whether one step down leads from the one term to the other one."""
    less = len(high) - len(low)
    if less <= 0:
        return False
    for index, part in enumerate(parts_of(high)):
        for _, result in rules_at(part):
            if len(part.text) - len(result.text) == less and _with_result(high, index, part, result) == low:
                return True
    return False


def _joins(one, other, chain):
    """Tell whether a chain joins two terms by steps down, each one forth or back."""
    if chain[0] != one or chain[-1] != other:
        return False
    for ahead, after in zip(chain, chain[1:]):
        if not _is_step(ahead, after) and not _is_step(after, ahead):
            return False
    return True


def _leads_down(term, chain):
    """Tell whether a chain leads from a term to a form by steps down."""
    if chain[0] != term or not is_form(chain[-1]):
        return False
    for ahead, after in zip(chain, chain[1:]):
        if not _is_step(ahead, after):
            return False
    return True


def _word_ends(term):
    """Return the ends of a term in word webs."""
    whole = parts_of(term)[0]
    return _word_end(whole, 0), _word_end(whole, 1)


def _word_end(whole, letter):
    """Return the pair of a letter of a term and of 0 or 1 that tells the first or the second letter of its value."""
    part = whole
    at = letter
    while part.left is not None:
        # The first letter of a product is the second one of its left side, and the other way round.
        part = part.left if at == 0 else part.right
        at = 1 - at
    return part.text, at


def _parting_values(web, one, other, letters):
    """Return the least dict from letters to places for which two forms have different values, None if there is none."""
    if one == other:
        return None
    # The values of letters that the forms do not have make no difference.
    columns = _all_values(len(web), letters_in(one + other))
    table = middle_table(web)
    firsts = _values_of(table, one, columns)
    seconds = _values_of(table, other, columns)
    for at, (first, second) in enumerate(zip(firsts, seconds)):
        if first != second:
            return {letter: columns[letter][at] if letter in columns else 0 for letter in letters}
    return None


def _all_values(many, letters):
    """Return for each letter the list of its places in all dicts from the letters to so many places, ascending."""
    columns = {}
    for letter in letters:
        columns = {name: [place for place in columns[name] for _ in range(many)] for name in columns}
        columns[letter] = list(range(many)) * raised(many, len(columns))
    return columns


def _values_of(table, term, columns):
    """Return the list of the values of a term for all values of its letters, by a middle table."""
    values = []
    for sign in term[::-1]:
        if sign == "*":
            left = values.pop()
            right = values.pop()
            values.append([table[one][other] for one, other in zip(left, right)])
        else:
            values.append(columns[sign])
    return values[0]


def _two_forms(one, other, times):
    """Return two forms as parts, which together have not too many letters, the other one so many times."""
    check_term(one)
    check_term(other)
    first = form_part(one)
    second = form_part(other)
    if first.text != one or second.text != other:
        raise InvalidTerm("one of the terms is no form")
    check_size(size_of(one) + times * size_of(other))
    return first, second


def _forms_of_size(forms, size):
    """Return the ascending list of the forms of a size, if the forms of smaller sizes are known."""
    found = []
    for many in range(1, size):
        for left in forms[many]:
            products = [joined(left, right) for right in forms[size - many]]
            found.extend([part for part in products if len(rules_at(part)) == 0])
    return sorted(found, key=lambda part: part.text)
