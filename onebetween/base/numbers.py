"""Powers, figures and divisors of integers."""

from math import isqrt

from onebetween.base.words import is_count, is_integer, is_within
from onebetween.errors import InvalidNumber, InvalidOperation

# Exponents, lengths and the numbers that are divided all end here.
_LIMIT = 1000

# All primes whose squares are at most _LIMIT.
_PRIMES = (2, 3, 5, 7, 11, 13, 17, 19, 23, 29, 31)


def power(base, exponent):
    """Return the power of a base of at least 1."""
    _check_base(base)
    if not is_within(exponent, 0, _LIMIT):
        raise InvalidNumber(exponent)
    return raised(base, exponent)


def raised(base, exponent):
    """Return the power of an integer, however great both are."""
    result = 1
    # Squaring takes few multiplications; a power can have 200000 digits.
    for bit in reversed(range(exponent.bit_length())):
        result = result * result
        if (exponent >> bit) & 1 == 1:
            result = result * base
    return result


def exponent_of(base, number):
    """Return the least exponent for which the power is the number, None if there is none."""
    _check_base(base)
    if not is_integer(number) or number < 1:
        raise InvalidNumber(number)
    result = 1
    for exponent in range(_LIMIT + 1):
        if result == number:
            return exponent
        if result > number:
            return None
        result = result * base
    return None


def figures_of(base, length, number):
    """Return the tuple of so many figures of a number, the highest one first."""
    _check_base(base)
    if not is_within(length, 0, _LIMIT):
        raise InvalidNumber(length)
    if not is_count(number):
        raise InvalidNumber(number)
    figures = []
    rest = number
    for _ in range(length):
        figures.append(rest % base)
        rest = rest // base
    if rest != 0:
        raise InvalidNumber(number)
    return tuple(figures[::-1])


def number_of(base, figures):
    """Return the number with a tuple of figures, the highest one first."""
    _check_base(base)
    if not _are_figures(base, figures):
        raise InvalidOperation("these are no figures in this base")
    number = 0
    for figure in figures:
        number = number * base + figure
    return number


def divisors(number):
    """Return the ascending tuple of the divisors of a number."""
    if not is_within(number, 1, _LIMIT):
        raise InvalidNumber(number)
    # Each divisor above the root has one below it as its partner.
    low = [part for part in range(1, isqrt(number) + 1) if number % part == 0]
    high = [number // part for part in low[::-1] if part * part != number]
    return tuple(low + high)


def moebius(number):
    """Return 0 if a square divides the number, otherwise 1 or -1 by the number of its primes."""
    if not is_within(number, 1, _LIMIT):
        raise InvalidNumber(number)
    sign = 1
    rest = number
    for prime in _PRIMES:
        if prime * prime > rest:
            break
        if rest % prime == 0:
            rest = rest // prime
            if rest % prime == 0:
                return 0
            sign = -sign
    # What is left has no prime divisor but itself.
    if rest > 1:
        return -sign
    return sign


def _check_base(base):
    """Refuse what is no integer of at least 1."""
    if not is_integer(base) or base < 1:
        raise InvalidNumber(base)


def _are_figures(base, figures):
    """Tell whether these are a tuple of figures in the base, and not too many."""
    if not isinstance(figures, tuple) or len(figures) > _LIMIT:
        return False
    return all([is_within(figure, 0, base - 1) for figure in figures])
