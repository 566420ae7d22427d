"""Polynomials of any degree: sums, products, parts and factors. Nothing is checked here but the form."""

from tablerings.base.checks import is_row
from tablerings.base.lines import (
    combined, kernel_rows, row_less, row_sum, row_times, unit_row, unit_rows, zero_row,
)
from tablerings.base.counting import undone_number


def is_some_poly(prime, value, most):
    """Whether a value is a polynomial of at most such a degree."""
    if not isinstance(value, tuple) or len(value) > most + 1:
        return False
    return is_row(prime, len(value), value) and (value == () or value[-1] != 0)


def trimmed(row):
    """The polynomial with the numbers of a row."""
    length = len(row)
    while length and row[length - 1] == 0:
        length = length - 1
    return tuple(row[:length])


def widened(poly, width):
    """The row of a width at least as long as the polynomial, with its numbers."""
    return poly + zero_row(width - len(poly))


def sum_of_polys(prime, one, other):
    """The sum of two polynomials."""
    width = max(len(one), len(other))
    return trimmed(row_sum(prime, widened(one, width), widened(other, width)))


def poly_less_other(prime, one, other):
    """The first polynomial less the second one."""
    width = max(len(one), len(other))
    return trimmed(row_less(prime, widened(one, width), widened(other, width)))


def product_of_polys(prime, one, other):
    """The product of two polynomials."""
    width = len(one) + len(other)
    shifted = [zero_row(at) + other + zero_row(len(one) - at) for at in range(len(one))]
    return trimmed(combined(prime, width, one, shifted))


def parts_of_poly(prime, one, other):
    """The quotient and the rest of a polynomial by another one, which is not 0."""
    rest = list(one)
    undone = undone_number(prime, other[-1])
    places = len(one) - len(other) + 1
    quotient = [0] * max(places, 0)
    for at in reversed(range(places)):
        number = rest[at + len(other) - 1] * undone % prime
        quotient[at] = number
        for place, digit in enumerate(other):
            rest[at + place] = (rest[at + place] - number * digit) % prime
    return (trimmed(quotient), trimmed(rest))


def rest_of_poly(prime, one, other):
    """The rest of a polynomial by another one, which is not 0."""
    return parts_of_poly(prime, one, other)[1]


def made_monic(prime, poly):
    """The monic multiple of a polynomial, or 0 of 0."""
    if not poly:
        return poly
    return row_times(prime, undone_number(prime, poly[-1]), poly)


def shared_poly(prime, one, other):
    """The monic polynomial of the greatest degree that divides both, or 0 for 0 and 0."""
    while other:
        one, other = other, rest_of_poly(prime, one, other)
    return made_monic(prime, one)


def slope(prime, poly):
    """The sum of each term's number times its exponent, at the exponent below."""
    return trimmed([at * number % prime for at, number in enumerate(poly)][1:])


def power_root(prime, poly):
    """The irreducible polynomial of which a monic one is a power."""
    # Without a slope, all exponents are multiples of the prime, and the polynomial is a power by it.
    while not slope(prime, poly):
        poly = poly[::prime]
    return parts_of_poly(prime, poly, shared_poly(prime, poly, slope(prime, poly)))[0]


def fixed_polys(prime, poly):
    """A base of the polynomials that are their own power by the prime, modulo one of a degree from 1 on."""
    width = len(poly) - 1
    letter = rest_of_poly(prime, zero_row(prime) + (1,), poly)
    powers = [(1,)]
    for _ in range(width - 1):
        powers.append(rest_of_poly(prime, product_of_polys(prime, powers[-1], letter), poly))
    rows = [row_less(prime, widened(power, width), unit_row(width, at)) for at, power in enumerate(powers)]
    return [trimmed(row) for row in kernel_rows(prime, rows)]


def unlike_parts(prime, poly):
    """The powers of unlike monic irreducible polynomials whose product is a monic one."""
    if len(poly) < 2:
        return []
    parts = [poly]
    # A fixed polynomial has one residue modulo each of the parts, and for two of them not the same one.
    for fixed in fixed_polys(prime, poly):
        levels = [poly_less_other(prime, fixed, trimmed((number,))) for number in range(prime)]
        found = [shared_poly(prime, part, level) for part in parts for level in levels]
        parts = [part for part in found if len(part) > 1]
    return parts


def factor_pairs(prime, poly):
    """The ascending pairs of the monic irreducible factors of a polynomial other than 0 and how often they stand."""
    pairs = []
    if len(poly) == 2:
        return ((made_monic(prime, poly), 1),)
    for part in unlike_parts(prime, made_monic(prime, poly)):
        factor = power_root(prime, part)
        pairs.append((factor, (len(part) - 1) // (len(factor) - 1)))
    return tuple(sorted(pairs))


def is_prime_poly(prime, poly):
    """Whether a polynomial is irreducible."""
    if len(poly) < 2:
        return False
    pairs = factor_pairs(prime, poly)
    return len(pairs) == 1 and pairs[0][1] == 1


def number_product(one, other):
    """The product of two square tables of whole numbers, as such."""
    columns = [[row[at] for row in other] for at in range(len(other))]
    return [[sum([a * b for a, b in zip(row, column)]) for column in columns] for row in one]


def number_trace(rows):
    """The sum of the entries with equal indices."""
    return sum([row[at] for at, row in enumerate(rows)])


def determinant_poly(prime, table):
    """The determinant of a letter less a square table."""
    count = len(table)
    numbers = [1]
    made = [list(row) for row in unit_rows(count)]
    # Over the whole numbers each division by a step has no rest, so residues are taken only at the end.
    for step in range(1, count + 1):
        made = number_product(table, made)
        number = -number_trace(made) // step
        numbers.append(number)
        for at in range(count):
            made[at][at] = made[at][at] + number
    return tuple([number % prime for number in numbers[::-1]])
