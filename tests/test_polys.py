"""Polynomials [2.1] to [2.5]."""

import itertools
import unittest

from tablerings.base import polys
from tablerings.base.polys import (
    factors, first_irreducible, fitting, irreducible_number, is_irreducible, is_poly, least_poly, poly_less,
    poly_of_table, poly_parts, poly_product, poly_shared, poly_sum, whole_poly,
)
from tablerings.base.spaces import followed, image, kernel, led, space_meet, space_sum
from tests.samples import PRIMES, rows_of, some_rows, sums_of


def cut(numbers):
    """The polynomial with these numbers."""
    numbers = list(numbers)
    while numbers and numbers[-1] == 0:
        numbers.pop()
    return tuple(numbers)


def chance_polys(prime, length, count, seed):
    """Some polynomials with at most so many numbers."""
    return [cut(row[:at % (length + 1)]) for at, row in enumerate(some_rows(prime, length, count, seed))]


def product(prime, one, other):
    """The product, term by term."""
    numbers = [0] * (len(one) + len(other))
    for i, a in enumerate(one):
        for j, b in enumerate(other):
            numbers[i + j] += a * b
    return cut(number % prime for number in numbers)


def all_monic(prime, degree):
    """All monic polynomials of a degree, ascending."""
    return [row + (1,) for row in rows_of(prime, degree)]


def irreducible_by_products(prime, most):
    """The monic irreducible polynomials up to a degree: those that are no products, ascending by degree."""
    products = set()
    for low in range(1, most):
        for high in range(low, most - low + 1):
            for one, other in itertools.product(all_monic(prime, low), all_monic(prime, high)):
                products.add(product(prime, one, other))
    return [poly for degree in range(1, most + 1) for poly in all_monic(prime, degree) if poly not in products]


def determinant(prime, table):
    """The determinant of a table of polynomials by its first row."""
    if not table:
        return (1,)
    total = ()
    for at, entry in enumerate(table[0]):
        low = determinant(prime, [row[:at] + row[at + 1:] for row in table[1:]])
        part = product(prime, entry, low)
        total = poly_sum(prime, total, part) if at % 2 == 0 else poly_less(prime, total, part)
    return total


def chance_square(prime, count, seed):
    """A square table, by chance; each second one is singular."""
    rows = some_rows(prime, count, count, seed)
    return tuple(rows if seed % 2 else rows[:-1] + [rows[0] if count > 1 else (0,)])


def unit_table(count):
    """The table that leads each row to itself."""
    return tuple(tuple(1 if i == j else 0 for j in range(count)) for i in range(count))


class PolyTest(unittest.TestCase):
    def test_constant(self):
        self.assertEqual(polys.MAX_DEGREE, 12)

    def test_what_is_a_poly(self):
        for prime in PRIMES:
            for value in ((), (1,), (0, 1), (0,) * 12 + (prime - 1,), (prime - 1,) * 13):
                self.assertIs(is_poly(prime, value), True)
            for value in ((0,), (1, 0), (0,) * 13 + (1,), (1,) * 14, (prime,), (0,) * 12):
                self.assertIs(is_poly(prime, value), False)

    def test_sums_and_products(self):
        for prime in PRIMES:
            for one, other in zip(chance_polys(prime, 13, 60, 1), chance_polys(prime, 12, 60, 2)):
                total = poly_sum(prime, one, other)
                self.assertEqual(total, cut((a + b) % prime for a, b in itertools.zip_longest(one, other, fillvalue=0)))
                self.assertEqual(poly_less(prime, total, other), one)
                self.assertEqual(poly_less(prime, one, one), ())
                self.assertEqual(poly_product(prime, one, other), product(prime, one, other))
                self.assertEqual(poly_less(prime, (), other), poly_product(prime, (prime - 1,), other))
            top = (0,) * 12 + (prime - 1,)
            self.assertEqual(poly_product(prime, top, top), (0,) * 24 + (1,))
            self.assertEqual([poly_product(prime, (), top), poly_sum(prime, (), top), poly_sum(prime, (), ())], [(), top, ()])

    def test_quotient_and_rest(self):
        for prime in PRIMES:
            for one, other in zip(chance_polys(prime, 13, 90, 3), chance_polys(prime, 9, 90, 4)):
                if other:
                    quotient, rest = poly_parts(prime, one, other)
                    self.assertEqual(poly_sum(prime, product(prime, quotient, other), rest), one)
                    self.assertLess(len(rest), len(other))
            self.assertEqual(poly_parts(prime, (), (1, 1)), ((), ()))
            self.assertEqual(poly_parts(prime, (1,), (1, 1)), ((), (1,)))
            self.assertEqual(poly_parts(prime, (0,) * 12 + (1,), (prime - 1,)), ((0,) * 12 + (prime - 1,), ()))

    def test_what_is_shared(self):
        for prime in PRIMES:
            for one, other, both in zip(*(chance_polys(prime, 6, 60, seed) for seed in (5, 6, 7))):
                one, other = product(prime, one, both), product(prime, other, both)
                shared = poly_shared(prime, one, other)
                if not one and not other:
                    self.assertEqual(shared, ())
                    continue
                self.assertEqual(shared[-1], 1)
                for poly in (one, other):
                    self.assertEqual(poly_parts(prime, poly, shared)[1], ())
                if both:
                    self.assertEqual(poly_parts(prime, shared, both)[1], ())
                self.assertEqual(shared, poly_shared(prime, other, one))
            self.assertEqual([poly_shared(prime, (), ()), poly_shared(prime, (), (0, prime - 1))], [(), (0, 1)])


class FactorsTest(unittest.TestCase):
    def test_irreducible_by_products(self):
        for prime, most in ((2, 7), (3, 5), (5, 3), (7, 3)):
            known = set(irreducible_by_products(prime, most))
            for degree in range(0, most + 1):
                for poly in all_monic(prime, degree):
                    self.assertIs(is_irreducible(prime, poly), poly in known)
                    self.assertIs(is_irreducible(prime, product(prime, poly, (prime - 1,))), poly in known)
                count = len([poly for poly in known if len(poly) == degree + 1])
                if degree:
                    self.assertEqual(irreducible_number(prime, degree), count)
            self.assertIs(is_irreducible(prime, ()), False)

    def test_factors_multiply_back(self):
        for prime in PRIMES:
            for poly in chance_polys(prime, 13, 80, 8) + [(0,) * 12 + (1,), (1,) + (0,) * 11 + (1,), (1,) * 13, (1,)]:
                if poly:
                    self.check_factors(prime, poly)

    def check_factors(self, prime, poly):
        last, pairs = factors(prime, poly)
        self.assertEqual(last, poly[-1])
        self.assertEqual(list(pairs), sorted(set(pairs)))
        self.assertEqual(len({factor for factor, _ in pairs}), len(pairs))
        found = (last,)
        for factor, times in pairs:
            self.assertTrue(factor[-1] == 1 and times >= 1 and is_irreducible(prime, factor))
            for _ in range(times):
                found = product(prime, found, factor)
        self.assertEqual(found, poly)

    def test_factors_are_those_that_were_multiplied(self):
        for prime in PRIMES:
            some = irreducible_by_products(prime, 2 if prime > 3 else 3)
            for at, one in enumerate(some):
                other = some[at * 7 % len(some)]
                times = {}
                poly = (prime - 1,)
                for factor in (one, other, one, one):
                    if len(poly) + len(factor) <= 14:
                        poly = product(prime, poly, factor)
                        times[factor] = times.get(factor, 0) + 1
                self.assertEqual(factors(prime, poly), (prime - 1, tuple(sorted(times.items()))))

    def test_powers_by_the_prime(self):
        for prime in PRIMES:
            for factor in ((1, 1), first_irreducible(prime, 2)):
                poly = (1,)
                times = 0
                while len(poly) + len(factor) <= 14:
                    poly, times = product(prime, poly, factor), times + 1
                    self.assertEqual(factors(prime, poly), (1, ((factor, times),)))

    def test_no_factors(self):
        for prime in PRIMES:
            for number in range(1, prime):
                self.assertEqual(factors(prime, (number,)), (number, ()))
                self.assertIs(is_irreducible(prime, (number,)), False)

    def test_all_linear_factors(self):
        for prime in PRIMES:
            poly = (0, prime - 1) + (0,) * (prime - 2) + (1,)
            self.assertEqual(factors(prime, poly)[1], tuple(((number, 1), 1) for number in range(prime)))

    def test_first_and_number(self):
        for prime in PRIMES:
            for degree in range(1, 13):
                total = sum(d * irreducible_number(prime, d) for d in range(1, degree + 1) if degree % d == 0)
                self.assertEqual(total, prime ** degree)
            for degree in range(1, 7):
                first = first_irreducible(prime, degree)
                self.assertTrue(is_irreducible(prime, first) and first[-1] == 1 and len(first) == degree + 1)
            for degree in range(1, 4):
                known = [poly for poly in irreducible_by_products(prime, degree) if len(poly) == degree + 1]
                self.assertEqual(first_irreducible(prime, degree), known[0])
        self.assertEqual(first_irreducible(2, 6), [poly for poly in irreducible_by_products(2, 6) if len(poly) == 7][0])

    def test_a_divisor_of_degree_1_is_not_all(self):
        """[2.5]"""
        for prime in PRIMES:
            low = first_irreducible(prime, 2)
            poly = poly_product(prime, low, low)
            self.assertFalse(any(poly_parts(prime, poly, (number, 1))[1] == () for number in range(prime)))
            self.assertIs(is_irreducible(prime, poly), False)


class TablePolyTest(unittest.TestCase):
    def test_values(self):
        for prime in PRIMES:
            for seed, poly in enumerate(chance_polys(prime, 13, 30, 9)):
                count = 1 + seed % 4
                table = chance_square(prime, count, seed)
                total, power = [[0] * count for _ in range(count)], unit_table(count)
                for number in poly:
                    total = [[a + number * b for a, b in zip(row, line)] for row, line in zip(total, power)]
                    power = followed(prime, power, table)
                expected = tuple(tuple(a % prime for a in row) for row in total)
                self.assertEqual(poly_of_table(prime, poly, table), expected)
            self.assertEqual(poly_of_table(prime, (), ((1,),)), ((0,),))
            self.assertEqual(poly_of_table(prime, (1,), unit_table(12)), unit_table(12))

    def test_the_whole_one_is_the_determinant(self):
        for prime in PRIMES:
            for seed in range(25):
                table = chance_square(prime, 1 + seed % 5, seed)
                letters = [[cut((-a % prime, 1 if i == j else 0)) for j, a in enumerate(row)] for i, row in enumerate(table)]
                self.assertEqual(whole_poly(prime, table), determinant(prime, letters))

    def test_least_and_whole(self):
        for prime in PRIMES:
            for seed in range(26):
                count = 12 if seed > 23 else 1 + seed % 6
                table = chance_square(prime, count, seed)
                least, whole = least_poly(prime, table), whole_poly(prime, table)
                nothing = ((0,) * count,) * count
                self.assertEqual([least[-1], whole[-1], len(whole)], [1, 1, count + 1])
                self.assertEqual([poly_of_table(prime, poly, table) for poly in (least, whole)], [nothing] * 2)
                self.assertEqual(poly_parts(prime, whole, least)[1], ())
                self.assertEqual(*([factor for factor, _ in factors(prime, poly)[1]] for poly in (least, whole)))
                for factor, _ in factors(prime, least)[1]:
                    lower = poly_parts(prime, least, factor)[0]
                    self.assertNotEqual(poly_of_table(prime, lower, table), nothing)

    def test_known_ones(self):
        for prime in PRIMES:
            for number in range(prime):
                power = (1,)
                for _ in range(12):
                    power = product(prime, power, (-number % prime, 1))
                table = tuple(tuple(number if i == j else 0 for j in range(12)) for i in range(12))
                self.assertEqual([least_poly(prime, table), whole_poly(prime, table)], [(-number % prime, 1), power])
            shift = tuple(tuple(1 if j == i + 1 else 0 for j in range(12)) for i in range(12))
            self.assertEqual([least_poly(prime, shift), whole_poly(prime, shift)], [(0,) * 12 + (1,)] * 2)

    def test_the_degree_is_not_the_number_of_rows_and_likeness_is_not_told(self):
        """[2.5]"""
        for prime in PRIMES:
            one = ((0, 1, 0, 0), (0, 0, 0, 0), (0, 0, 0, 0), (0, 0, 0, 0))
            two = ((0, 1, 0, 0), (0, 0, 0, 0), (0, 0, 0, 1), (0, 0, 0, 0))
            for poly in (least_poly, whole_poly):
                self.assertEqual(poly(prime, one), poly(prime, two))
            self.assertEqual([len(image(prime, one)), len(image(prime, two)), len(least_poly(prime, one))], [1, 2, 3])


class FittingTest(unittest.TestCase):
    def test_both_spaces(self):
        for prime in PRIMES:
            for seed in range(26):
                count = 12 if seed > 23 else 1 + seed % 5
                table = chance_square(prime, count, seed)
                low, high = fitting(prime, table)
                whole = whole_poly(prime, table)
                self.assertEqual(len(low), next(at for at, number in enumerate(whole) if number))
                self.assertEqual(space_meet(prime, count, low, high), ())
                self.assertEqual(len(space_sum(prime, count, low, high)), count)
                power = unit_table(count)
                for _ in range(count + 1):
                    power = followed(prime, power, table)
                self.assertEqual((low, high), (kernel(prime, power), image(prime, power)))

    def test_by_trial(self):
        for prime in (2, 3):
            for seed in range(20):
                table = chance_square(prime, 3, seed)
                low, high = fitting(prime, table)
                rows = rows_of(prime, 3)
                gone, stays = set(), set(rows)
                for row in rows:
                    last = row
                    for _ in range(4):
                        last = led(prime, table, last)
                    if last == (0, 0, 0):
                        gone.add(row)
                for _ in range(4):
                    stays = {led(prime, table, row) for row in stays}
                self.assertEqual(sums_of(prime, 3, low), gone)
                self.assertEqual(sums_of(prime, 3, high), stays)
                self.assertEqual({led(prime, table, row) for row in stays}, stays)

    def test_edges(self):
        for prime in PRIMES:
            self.assertEqual(fitting(prime, ((0,),)), (((1,),), ()))
            self.assertEqual(fitting(prime, ((prime - 1,),)), ((), ((1,),)))


if __name__ == "__main__":
    unittest.main()
