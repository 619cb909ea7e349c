"""Powers, figures and divisors: stage 1."""

import unittest

from onebetween.base.numbers import divisors, exponent_of, figures_of, moebius, number_of, power
from onebetween.errors import InvalidNumber, InvalidOperation
from tests.cases import Case
from tests.wrong_values import LONG, LONG_INTEGERS, NEGATIVE_INTEGERS, NO_COUNTS, NO_INTEGERS, without

LARGEST = LONG - 1
NO_BASES = NO_COUNTS + (0,)
NO_LIMITED = NO_COUNTS + (1001, 1002, 10 ** 6, LARGEST)


class Power(Case):
    def test_small(self):
        for base in range(1, 12):
            for exponent in range(40):
                self.assertSame(power(base, exponent), base ** exponent)

    def test_limits(self):
        for base in (1, 2, 10, 10 ** 199, LARGEST):
            for exponent in (0, 1, 999, 1000):
                # assertEqual would write both numbers as strings, which Python refuses.
                self.assertTrue(power(base, exponent) == base ** exponent)

    def test_wrong(self):
        for base in NO_BASES:
            self.assertRefused(InvalidNumber, "value", base, power, base, 2)
            self.assertRefused(InvalidNumber, "value", base, power, base, -1)
        for exponent in NO_LIMITED:
            self.assertRefused(InvalidNumber, "value", exponent, power, 2, exponent)


class ExponentOf(Case):
    def test_small(self):
        for base in range(1, 12):
            for number in range(1, 200):
                wanted = [exponent for exponent in range(10) if base ** exponent == number]
                self.assertSame(exponent_of(base, number), wanted[0] if wanted else None)

    def test_limits(self):
        self.assertSame(exponent_of(2, 2 ** 664), 664)
        self.assertSame(exponent_of(2, 2 ** 664 - 1), None)
        self.assertSame(exponent_of(2, 2 ** 664 + 1), None)
        self.assertSame(exponent_of(10, 10 ** 199), 199)
        self.assertSame(exponent_of(LARGEST, LARGEST), 1)
        self.assertSame(exponent_of(LARGEST, 1), 0)
        self.assertSame(exponent_of(LARGEST, LARGEST - 1), None)
        self.assertSame(exponent_of(1, LARGEST), None)

    def test_wrong(self):
        for base in NO_BASES:
            self.assertRefused(InvalidNumber, "value", base, exponent_of, base, 4)
            self.assertRefused(InvalidNumber, "value", base, exponent_of, base, 0)
        for number in NO_BASES + (10 ** 2000,):
            with self.assertRaises(InvalidNumber) as caught:
                exponent_of(2, number)
            self.assertIs(caught.exception.value, number)


class FiguresOf(Case):
    def test_small(self):
        for base in range(2, 6):
            for length in range(5):
                found = [figures_of(base, length, number) for number in range(base ** length)]
                # In ascending order all tuples of so many figures stand there once.
                self.assertEqual(found, sorted(set(found)))
                for number, figures in enumerate(found):
                    self.assertEqual(len(figures), length)
                    self.assertTrue(all(0 <= figure < base for figure in figures))
                    self.assertSame(number_of(base, figures), number)
                many = base ** length
                self.assertRefused(InvalidNumber, "value", many, figures_of, base, length, many)

    def test_decimal(self):
        self.assertSame(figures_of(10, 6, 4096), (0, 0, 4, 0, 9, 6))
        self.assertSame(figures_of(10, 200, LARGEST), (9,) * 200)
        self.assertRefused(InvalidNumber, "value", LARGEST, figures_of, 10, 199, LARGEST)

    def test_base_one(self):
        for length in (0, 1, 3, 1000):
            self.assertSame(figures_of(1, length, 0), (0,) * length)
            for number in (1, 2, LARGEST):
                self.assertRefused(InvalidNumber, "value", number, figures_of, 1, length, number)

    def test_limits(self):
        self.assertSame(figures_of(7, 0, 0), ())
        self.assertSame(figures_of(2, 1000, 5), (0,) * 997 + (1, 0, 1))
        self.assertSame(figures_of(LARGEST, 1000, LARGEST), (0,) * 998 + (1, 0))
        self.assertSame(figures_of(LARGEST, 1, LARGEST - 1), (LARGEST - 1,))

    def test_wrong(self):
        for base in NO_BASES:
            self.assertRefused(InvalidNumber, "value", base, figures_of, base, 3, 1)
            self.assertRefused(InvalidNumber, "value", base, figures_of, base, -1, -2)
        for length in NO_LIMITED:
            self.assertRefused(InvalidNumber, "value", length, figures_of, 2, length, 1)
            self.assertRefused(InvalidNumber, "value", length, figures_of, 2, length, -1)
        for number in NO_COUNTS:
            self.assertRefused(InvalidNumber, "value", number, figures_of, 2, 1000, number)


class NumberOf(Case):
    def test_small(self):
        self.assertSame(number_of(10, (0, 0, 4, 0, 9, 6)), 4096)
        self.assertSame(number_of(2, (1, 1, 0)), 6)
        for base in (1, 2, LARGEST):
            self.assertSame(number_of(base, ()), 0)

    def test_limits(self):
        self.assertSame(number_of(1, (0,) * 1000), 0)
        self.assertTrue(number_of(2, (1,) * 1000) == 2 ** 1000 - 1)
        self.assertTrue(number_of(LARGEST, (LARGEST - 1,) * 1000) == LARGEST ** 1000 - 1)
        self.assertTrue(number_of(LARGEST, (1,) + (0,) * 999) == LARGEST ** 999)

    def test_wrong_bases(self):
        for base in NO_BASES:
            self.assertRefused(InvalidNumber, "value", base, number_of, base, (0,))
            self.assertRefused(InvalidNumber, "value", base, number_of, base, None)

    def test_wrong_figures(self):
        right = ((), (0,), (1, 2), (0, 1, 2))
        figures = without(NO_INTEGERS + LONG_INTEGERS + NEGATIVE_INTEGERS, *right) + (0, 1, (0,) * 1001, (2, 3), (3,), (-1,))
        for value in figures + ((1, -1), (1, True), (False,), (0, LONG), (0, "1"), (0, None), (0, (1,)), [0, 1]):
            with self.subTest(value=value):
                self.assertRaisesJust(InvalidOperation, number_of, 3, value)
        self.assertRaisesJust(InvalidOperation, number_of, 1, (1,))
        self.assertRaisesJust(InvalidOperation, number_of, LARGEST, (LARGEST,))
        self.assertRaisesJust(InvalidOperation, number_of, LARGEST, (LONG,))


class Divisors(Case):
    def test_all(self):
        for number in range(1, 1001):
            wanted = tuple(part for part in range(1, 1001) if number % part == 0)
            self.assertSame(divisors(number), wanted)

    def test_wrong(self):
        for number in NO_LIMITED + (0,):
            self.assertRefused(InvalidNumber, "value", number, divisors, number)


class Moebius(Case):
    def test_some(self):
        wanted = (1, -1, -1, 0, -1, 1, -1, 0, 0, 1, -1, 0, -1, 1, 1, 0, -1, 0, -1, 0)
        self.assertSame(tuple(moebius(number) for number in range(1, 21)), wanted)
        self.assertSame([moebius(30), moebius(210), moebius(997), moebius(1000), moebius(961), moebius(770)], [-1, 1, -1, 0, 0, 1])

    def test_all(self):
        primes = [number for number in range(2, 1001) if all(number % part for part in range(2, number))]
        for number in range(1, 1001):
            parts = [prime for prime in primes if number % prime == 0]
            squared = any(number % (prime * prime) == 0 for prime in primes)
            self.assertSame(moebius(number), 0 if squared else (-1) ** len(parts))

    def test_sums(self):
        # The values over all divisors of a number above 1 cancel each other; no other values do so.
        for number in range(1, 1001):
            total = sum(moebius(part) for part in range(1, number + 1) if number % part == 0)
            self.assertEqual(total, 1 if number == 1 else 0)

    def test_wrong(self):
        for number in NO_LIMITED + (0,):
            self.assertRefused(InvalidNumber, "value", number, moebius, number)


if __name__ == "__main__":
    unittest.main()
