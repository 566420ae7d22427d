"""Polynomials over the residues of a prime, and those of tables."""

from tablerings.base.checks import check_from_to, check_prime, is_square
from tablerings.base.counting import digits, powered
from tablerings.base.lines import (
    flat, kernel_rows, reduced, row_sum, row_times, rows_followed, solved, unit_rows, zero_row,
)
from tablerings.base.polywork import (
    determinant_poly, factor_pairs, is_prime_poly, is_some_poly, parts_of_poly, poly_less_other, product_of_polys,
    shared_poly, sum_of_polys,
)
from tablerings.errors import InvalidPoly, InvalidTable, Refused

MAX_DEGREE = 12
MAX_FIRST = 6


def check_poly(prime, poly):
    """Refuse what is no polynomial that can be passed."""
    if not is_some_poly(prime, poly, MAX_DEGREE):
        raise InvalidPoly("no polynomial of a degree of at most 12")


def check_polys(prime, one, other):
    """Refuse two polynomials, unless they are such."""
    check_prime(prime)
    check_poly(prime, one)
    check_poly(prime, other)


def check_square(prime, table):
    """Refuse what is no square table of 1 to 12 rows."""
    if not isinstance(table, tuple) or not 1 <= len(table) <= MAX_DEGREE or not is_square(prime, len(table), table):
        raise InvalidTable("no square table of 1 to 12 rows")


def is_poly(prime, value):
    """Whether a value is a polynomial that can be passed."""
    check_prime(prime)
    return is_some_poly(prime, value, MAX_DEGREE)


def poly_sum(prime, one, other):
    """The sum of two polynomials."""
    check_polys(prime, one, other)
    return sum_of_polys(prime, one, other)


def poly_less(prime, one, other):
    """The first polynomial less the second one."""
    check_polys(prime, one, other)
    return poly_less_other(prime, one, other)


def poly_product(prime, one, other):
    """The product of two polynomials."""
    check_polys(prime, one, other)
    return product_of_polys(prime, one, other)


def poly_parts(prime, one, other):
    """The pair of the quotient and the rest."""
    check_polys(prime, one, other)
    if not other:
        raise Refused(("zero",))
    return parts_of_poly(prime, one, other)


def poly_shared(prime, one, other):
    """The monic polynomial of the greatest degree that divides both, or 0 for 0 and 0."""
    check_polys(prime, one, other)
    return shared_poly(prime, one, other)


def is_irreducible(prime, poly):
    """Whether a polynomial is irreducible."""
    check_prime(prime)
    check_poly(prime, poly)
    return is_prime_poly(prime, poly)


def factors(prime, poly):
    """The pair of the last number of a polynomial and of the pairs of its factors and their times."""
    check_prime(prime)
    check_poly(prime, poly)
    if not poly:
        raise Refused(("zero",))
    return (poly[-1], factor_pairs(prime, poly))


def poly_of_table(prime, poly, table):
    """The sum of the numbers of a polynomial times the powers of a table."""
    check_prime(prime)
    check_poly(prime, poly)
    check_square(prime, table)
    count = len(table)
    units = unit_rows(count)
    value = [zero_row(count)] * count
    for number in poly[::-1]:
        stepped_on = rows_followed(prime, value, table)
        value = [row_sum(prime, stepped_on[at], row_times(prime, number, units[at])) for at in range(count)]
    return tuple(value)


def least_poly(prime, table):
    """The monic polynomial of the least degree whose value for a table is 0."""
    check_prime(prime)
    check_square(prime, table)
    powers = [flat(unit_rows(len(table)))]
    power = table
    found = solved(prime, powers, flat(power))
    while found is None:
        powers.append(flat(power))
        power = rows_followed(prime, power, table)
        found = solved(prime, powers, flat(power))
    return tuple([-number % prime for number in found]) + (1,)


def whole_poly(prime, table):
    """The determinant of a letter less a table."""
    check_prime(prime)
    check_square(prime, table)
    return determinant_poly(prime, table)


def fitting(prime, table):
    """The pair of the rows that some power of a table leads to 0, and of those to which each power leads some row."""
    check_prime(prime)
    check_square(prime, table)
    power = table
    for _ in range(len(table) - 1):
        power = rows_followed(prime, power, table)
    return (kernel_rows(prime, power), reduced(prime, power))


def first_irreducible(prime, degree):
    """The least monic irreducible polynomial of a degree, as tuples compare."""
    check_prime(prime)
    check_from_to(degree, 1, MAX_FIRST)
    # From the degree 2 on, no irreducible one begins with 0, so those are passed over.
    number = 0 if degree == 1 else powered(prime, degree - 1)
    poly = digits(prime, degree, number) + (1,)
    while not is_prime_poly(prime, poly):
        number = number + 1
        poly = digits(prime, degree, number) + (1,)
    return poly


def irreducible_number(prime, degree):
    """How many monic irreducible polynomials of a degree there are."""
    check_prime(prime)
    check_from_to(degree, 1, MAX_DEGREE)
    numbers = {}
    for whole in range(1, degree + 1):
        below = sum([part * numbers[part] for part in numbers if whole % part == 0])
        numbers[whole] = (powered(prime, whole) - below) // whole
    return numbers[degree]
