"""Rows of residues: sums, bases, and what tables lead where. Nothing is checked here.

Rows are tuples of residues; several rows are a list or a tuple of rows of one width.
"""

from tablerings.base.lanes import LANE, Echelon, packed, unpacked


def zero_row(width):
    """The row of the width that is 0 everywhere."""
    return (0,) * width


def unit_row(width, place):
    """The row of the width with 1 at one place and 0 elsewhere."""
    return zero_row(place) + (1,) + zero_row(width - place - 1)


def unit_rows(width):
    """The table that leads each row of the width to itself."""
    return tuple([unit_row(width, place) for place in range(width)])


def row_sum(prime, one, other):
    """The sum of two rows."""
    return tuple([(a + b) % prime for a, b in zip(one, other)])


def row_less(prime, one, other):
    """The first row less the second one."""
    return tuple([(a - b) % prime for a, b in zip(one, other)])


def row_times(prime, number, row):
    """The row multiplied by a number."""
    return tuple([number * a % prime for a in row])


def combined(prime, width, numbers, rows):
    """The sum of some rows of the width, each multiplied by its number."""
    total = [0] * width
    for number, row in zip(numbers, rows):
        if number:
            total = [a + number * b for a, b in zip(total, row)]
    return tuple([a % prime for a in total])


def rows_followed(prime, one, other):
    """One table followed by another one."""
    width = len(other[0])
    return tuple([combined(prime, width, row, other) for row in one])


def rows_turned(rows):
    """A table with rows and columns exchanged."""
    return tuple([tuple([row[at] for row in rows]) for at in range(len(rows[0]))])


def flat(rows):
    """Some rows, one behind the other, as one row."""
    return tuple([number for row in rows for number in row])


def at_places(row, places):
    """The row of what stands at some places of a row."""
    return tuple([row[at] for at in places])


def lead_from(row, start):
    """The first place from a start on where a row is not 0, or its width if there is none."""
    for at in range(start, len(row)):
        if row[at]:
            return at
    return len(row)


def leads_of(base):
    """The leads of the rows of a reduced base."""
    return [lead_from(row, 0) for row in base]


def echelon_of(prime, width, rows):
    """The echelon of the sums of some rows of the width."""
    found = Echelon(prime, width)
    # Rows that are told more than once, as products often are, are added once.
    found.take_all([packed(row) for row in {some: True for some in rows}])
    return found


def reduced(prime, rows):
    """The reduced base of the space of all sums of some rows."""
    if not rows:
        return ()
    width = len(rows[0])
    return echelon_of(prime, width, rows).base(width)


def remainder(prime, base, row):
    """The row less multiples of a reduced base, so that it is 0 at all leads."""
    return row_less(prime, row, combined(prime, len(row), at_places(row, leads_of(base)), base))


def is_within(prime, base, rows):
    """Whether all of some rows lie in the space of a reduced base."""
    leads = leads_of(base)
    for row in {some: True for some in rows}:
        if combined(prime, len(row), at_places(row, leads), base) != row:
            return False
    return True


def told_echelon(prime, width, numbers):
    """The echelon of rows, told by numbers, with the unit row of the index behind each: it tells which sum was made."""
    count = len(numbers)
    found = Echelon(prime, width + count)
    found.take_all([(number << count * LANE) + (1 << (count - at - 1) * LANE) for at, number in enumerate(numbers)])
    return found


def kernel_of(prime, width, numbers):
    """The space of the rows of numbers with which some rows of the width, told by numbers, add up to 0."""
    return told_echelon(prime, width, numbers).base(len(numbers))


def kernel_rows(prime, rows):
    """The space of the rows that a table of at least one row leads to 0."""
    return kernel_of(prime, len(rows[0]), [packed(row) for row in rows])


def meet_rows(prime, width, one, other):
    """The space of the rows that are sums of the first rows, and of the second ones, too."""
    rows = [row + row for row in one] + [row + zero_row(width) for row in other]
    return echelon_of(prime, 2 * width, rows).base(width)


def solved_numbers(prime, width, numbers, goal):
    """The residues with which some rows of the width add up to another one, all told by numbers, or None."""
    count = len(numbers)
    rest = told_echelon(prime, width, numbers).rest(goal << count * LANE)
    if rest >> count * LANE:
        return None
    return tuple([-number % prime for number in unpacked(count, rest)])


def solved(prime, rows, row):
    """A row that a table leads to the given one, or None."""
    return solved_numbers(prime, len(row), [packed(line) for line in rows], packed(row))


def undone_rows(prime, rows):
    """The table that undoes a square one, or None if it is singular."""
    count = len(rows)
    if count == 0:
        return ()
    both = told_echelon(prime, count, [packed(row) for row in rows]).base(2 * count)
    if lead_from(both[-1], 0) >= count:
        return None
    return tuple([row[count:] for row in both])


def row_product(prime, one, other):
    """The product of two rows: the sum of the products, place by place."""
    return sum([a * b for a, b in zip(one, other)]) % prime


def free_places(width, base):
    """The places that are no leads of a reduced base, ascending."""
    leads = leads_of(base)
    return [at for at in range(width) if at not in leads]


def all_rows(prime, width):
    """All rows of a width, ascending."""
    rows = [()]
    for _ in range(width):
        rows = [row + (number,) for row in rows for number in range(prime)]
    return rows


def all_sums(prime, width, base):
    """All sums of multiples of some rows of the width."""
    sums = [zero_row(width)]
    for row in base:
        multiples = [row_times(prime, number, row) for number in range(prime)]
        sums = [row_sum(prime, low, high) for low in sums for high in multiples]
    return sums
