"""Powers, figures and divisors of integers."""

from onebetween.base.words import is_count, is_integer, is_within
from onebetween.errors import InvalidNumber, InvalidOperation

# Exponents, lengths and the numbers that are divided all end here.
_LIMIT = 1000


def power(base, exponent):
    """Return the power of a base of at least 1."""
    _check_base(base)
    if not is_within(exponent, 0, _LIMIT):
        raise InvalidNumber(exponent)
    result = 1
    # Squaring takes few multiplications; a power can have 200000 digits.
    for bit in reversed(range(exponent.bit_length())):
        result = result * result
        if (exponent >> bit) & 1 == 1:
            result = result * base
    return result


def exponent_of(base, number):
    """Return the least exponent for which the power is the number, None if there is none."""
    _check_base(base)
    if not is_integer(number) or number < 1:
        raise InvalidNumber(number)
    result = 1
    for exponent in range(_LIMIT + 1):
        if result == number:
            return exponent
        if result > number:
            return None
        result = result * base
    return None


def figures_of(base, length, number):
    """Return the tuple of so many figures of a number, the highest one first."""
    _check_base(base)
    if not is_within(length, 0, _LIMIT):
        raise InvalidNumber(length)
    if not is_count(number):
        raise InvalidNumber(number)
    figures = []
    rest = number
    for _ in range(length):
        figures.append(rest % base)
        rest = rest // base
    if rest != 0:
        raise InvalidNumber(number)
    return tuple(figures[::-1])


def number_of(base, figures):
    """Return the number with a tuple of figures, the highest one first."""
    _check_base(base)
    if not _are_figures(base, figures):
        raise InvalidOperation("these are no figures in this base")
    number = 0
    for figure in figures:
        number = number * base + figure
    return number


def divisors(number):
    """Return the ascending tuple of the divisors of a number."""
    if not is_within(number, 1, _LIMIT):
        raise InvalidNumber(number)
    return tuple([part for part in range(1, number + 1) if number % part == 0])


def moebius(number):
    """Return 0 if a square divides the number, otherwise 1 or -1 by the number of its primes."""
    parts = divisors(number)
    if any([number % (part * part) == 0 for part in parts if part > 1]):
        return 0
    primes = [part for part in parts if len(divisors(part)) == 2]
    if len(primes) % 2 == 0:
        return 1
    return -1


def _check_base(base):
    """Refuse what is no integer of at least 1."""
    if not is_integer(base) or base < 1:
        raise InvalidNumber(base)


def _are_figures(base, figures):
    """Tell whether these are a tuple of figures in the base, and not too many."""
    if not isinstance(figures, tuple) or len(figures) > _LIMIT:
        return False
    return all([is_within(figure, 0, base - 1) for figure in figures])
