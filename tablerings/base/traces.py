"""What comes to nothing among sums of tables, found by the traces of powers. Nothing is checked here.

The tables are a base of the sums of some tables among which are all products of two of them.
"""

from tablerings.base.lanes import FULL_LANE, LANE, Lanes, joined, packed, summed, unpacked
from tablerings.base.lines import combined, kernel_rows, reduced, unit_rows, zero_row


def whole_product(one, other, modulus):
    """One table of whole numbers below a modulus followed by another one, modulo it."""
    lines = [joined(1, row) for row in other]
    shifts = [LANE * lane for lane in reversed(range(len(other)))]
    totals = [summed(row, lines) for row in one]
    return [[(total >> shift) % FULL_LANE % modulus for shift in shifts] for total in totals]


def whole_power(rows, number, modulus):
    """The product of so many times a table of whole numbers, modulo a number."""
    if number == 1:
        return rows
    half = whole_power(rows, number // 2, modulus)
    square = whole_product(half, half, modulus)
    return square if number % 2 == 0 else whole_product(square, rows, modulus)


def product_trace(one, other):
    """The sum of the entries with equal indices of one square table followed by another one."""
    places = range(len(one))
    return sum([one[i][j] * other[j][i] for i in places for j in places if one[i][j]])


def power_trace(rows, number, modulus):
    """The trace of the product of so many times, at least twice, a table of whole numbers, modulo a number."""
    half = whole_power(rows, number // 2, modulus)
    rest = half if number % 2 == 0 else whole_product(half, rows, modulus)
    return product_trace(half, rest) % modulus


def plain_trace_rows(prime, tables):
    """For each table the row of the traces of all of them followed by it."""
    lanes = Lanes(prime, len(tables))
    places = range(len(tables[0]))
    columns = [[packed([table[j][i] for table in tables]) for j in places] for i in places]
    flat_columns = [column for line in columns for column in line]
    flat_tables = [[number for row in table for number in row] for table in tables]
    return [unpacked(len(tables), lanes.settled(summed(numbers, flat_columns))) for numbers in flat_tables]


def power_trace_rows(prime, tables, space, number):
    """For each sum in a space the row of the traces of powers of all tables followed by it, divided by a number."""
    size = len(tables[0])
    lanes = Lanes(prime, size)
    lines = [[packed(row) for row in table] for table in tables]
    # Products are often told more than once.
    known = {(zero_row(size),) * size: 0}
    rows = []
    for numbers in space:
        line = [lanes.settled(summed(numbers, [some[at] for some in lines])) for at in range(size)]
        values = []
        for table in tables:
            made = tuple([unpacked(size, lanes.settled(summed(row, line))) for row in table])
            if made not in known:
                known[made] = power_trace(made, number, number * prime) // number % prime
            values.append(known[made])
        rows.append(tuple(values))
    return rows


def trace_spaces_of(prime, tables):
    """The spaces of sums that are cut out by the traces of powers by 1, the prime, and so on.

    Sums are told by the number of each table in them; the last space is the greatest ideal some power of which is 0.
    """
    spaces = []
    space = unit_rows(len(tables))
    number = 1
    while number <= len(tables[0]):
        if number == 1:
            space = kernel_rows(prime, plain_trace_rows(prime, tables))
        elif space:
            sums = kernel_rows(prime, power_trace_rows(prime, tables, space, number))
            space = reduced(prime, [combined(prime, len(tables), row, space) for row in sums])
        spaces.append(space)
        number = number * prime
    return tuple(spaces)
