"""The polynomials of tables at a row, and sums of rows that are tried one after the other. Nothing is checked here.

A table is told by the numbers of its rows (lanes.py).
"""

from tablerings.base.counting import undone_number
from tablerings.base.lanes import LANE, Echelon, Lanes, packed, unpacked
from tablerings.base.lines import row_times
from tablerings.base.polywork import parts_of_poly, poly_less_other, product_of_polys, rest_of_poly, trimmed


def order_poly(prime, lines, row):
    """The monic polynomial of the least degree whose value for a table leads a row to 0."""
    width = len(row)
    lanes = Lanes(prime, width)
    # Behind each power stands which one it is, so that the first one that hangs on those ahead of it tells how.
    behind = width + 1
    found = Echelon(prime, width + behind)
    number, mark = packed(row), 1 << width * LANE
    rest = found.rest((number << behind * LANE) + mark)
    while rest >> behind * LANE:
        found.take(rest)
        number = lanes.led(lines, unpacked(width, number))
        mark = mark >> LANE
        rest = found.rest((number << behind * LANE) + mark)
    return trimmed(unpacked(behind, rest))


def poly_led(prime, poly, lines, row):
    """The row to which the value of a polynomial for a table leads a row."""
    width = len(row)
    lanes = Lanes(prime, width)
    start, value = packed(row), 0
    for number in poly[::-1]:
        value = lanes.settled(lanes.led(lines, unpacked(width, value)) + number * start)
    return unpacked(width, value)


def undone_poly(prime, poly, modulus):
    """The polynomial whose product with another one is 1 modulo a third one; both share no factor."""
    ahead, behind = (modulus, ()), (poly, (1,))
    while len(behind[0]) > 1:
        quotient, rest = parts_of_poly(prime, ahead[0], behind[0])
        factor = poly_less_other(prime, ahead[1], product_of_polys(prime, quotient, behind[1]))
        ahead, behind = behind, (rest, factor)
    return rest_of_poly(prime, row_times(prime, undone_number(prime, behind[0][0]), behind[1]), modulus)


def weighted_sums(lanes, numbers, weight):
    """The sums of so many of some rows, each but the first one multiplied by any residue other than 0."""
    if weight == 1:
        return list(numbers)
    found = []
    for at, number in enumerate(numbers):
        for rest in weighted_sums(lanes, numbers[at + 1:], weight - 1):
            found.extend([lanes.settled(number + times * rest) for times in range(1, lanes.modulus)])
    return found


def first_told(prime, width, rows, told, least):
    """What is told first, other than None, of the sums of some rows, those of the least number of rows ahead.

    Sums of few rows lie in no small space for long, so that this ends soon if much is told of many sums.
    """
    lanes = Lanes(prime, width)
    numbers = [packed(row) for row in rows]
    for weight in range(least, len(rows) + 1):
        for number in weighted_sums(lanes, numbers, weight):
            answer = told(unpacked(width, number))
            if answer is not None:
                return answer
    return None
