"""Rows of residues: sums, bases, and what tables lead where. Nothing is checked here.

Rows are tuples of residues; several rows are a list or a tuple of rows of one width.
"""

from tablerings.base.counting import undone_number


def zero_row(width):
    """The row of the width that is 0 everywhere."""
    return (0,) * width


def unit_row(width, place):
    """The row of the width with 1 at one place and 0 elsewhere."""
    return zero_row(place) + (1,) + zero_row(width - place - 1)


def unit_rows(width):
    """The table that leads each row of the width to itself."""
    return tuple([unit_row(width, place) for place in range(width)])


def row_sum(prime, one, other):
    """The sum of two rows."""
    return tuple([(a + b) % prime for a, b in zip(one, other)])


def row_less(prime, one, other):
    """The first row less the second one."""
    return tuple([(a - b) % prime for a, b in zip(one, other)])


def row_times(prime, number, row):
    """The row multiplied by a number."""
    return tuple([number * a % prime for a in row])


def row_less_times(prime, row, number, other):
    """The first row less so many times the second one."""
    return tuple([(a - number * b) % prime for a, b in zip(row, other)])


def combined(prime, width, numbers, rows):
    """The sum of some rows of the width, each multiplied by its number."""
    total = [0] * width
    for number, row in zip(numbers, rows):
        if number:
            total = [a + number * b for a, b in zip(total, row)]
    return tuple([a % prime for a in total])


def rows_followed(prime, one, other):
    """One table followed by another one."""
    width = len(other[0])
    return tuple([combined(prime, width, row, other) for row in one])


def rows_turned(rows):
    """A table with rows and columns exchanged."""
    return tuple([tuple([row[at] for row in rows]) for at in range(len(rows[0]))])


def flat(rows):
    """Some rows, one behind the other, as one row."""
    return tuple([number for row in rows for number in row])


def at_places(row, places):
    """The row of what stands at some places of a row."""
    return tuple([row[at] for at in places])


def lead_from(row, start):
    """The first place from a start on where a row is not 0, or its width if there is none."""
    for at in range(start, len(row)):
        if row[at]:
            return at
    return len(row)


def row_beyond(prime, steps, row):
    """The row less multiples of steps, so that it is 0 at each of their leads.

    Steps are a dict from leads to rows that have their first 1 there and 0 before it.
    """
    at = lead_from(row, 0)
    while at < len(row):
        if at in steps:
            row = row_less_times(prime, row, row[at], steps[at])
        at = lead_from(row, at + 1)
    return row


def steps_of(base):
    """The steps of rows each of which has 1 at its lead, all leads being unlike."""
    return {lead_from(row, 0): row for row in base}


def stepped(prime, rows):
    """Steps with the same sums as some rows."""
    steps = {}
    for row in rows:
        rest = row_beyond(prime, steps, row)
        at = lead_from(rest, 0)
        if at < len(rest):
            steps[at] = row_times(prime, undone_number(prime, rest[at]), rest)
    return steps


def reduced(prime, rows):
    """The reduced base of the space of all sums of some rows."""
    steps = stepped(prime, rows)
    done = {}
    # From the last lead back, each row meets only rows that are reduced already.
    for at in sorted(steps, reverse=True):
        done[at] = row_beyond(prime, done, steps[at])
    return tuple([done[at] for at in sorted(done)])


def remainder(prime, base, row):
    """The row less multiples of a reduced base, so that it is 0 at all leads."""
    return row_beyond(prime, steps_of(base), row)


def is_within(prime, base, rows):
    """Whether all of some rows lie in the space of a reduced base."""
    steps = steps_of(base)
    return all([row_beyond(prime, steps, row) == zero_row(len(row)) for row in rows])


def rows_and_units(rows):
    """Each row with the unit row of its index behind it, so that it is kept which sum was made."""
    return [row + unit_row(len(rows), at) for at, row in enumerate(rows)]


def tails(prime, width, steps):
    """The reduced base of what stands behind the width in the steps that are 0 before it."""
    return reduced(prime, [steps[at][width:] for at in steps if at >= width])


def kernel_rows(prime, rows):
    """The space of the rows that a table of at least one row leads to 0."""
    return tails(prime, len(rows[0]), stepped(prime, rows_and_units(rows)))


def meet_rows(prime, width, one, other):
    """The space of the rows that are sums of the first rows, and of the second ones, too."""
    rows = [row + row for row in one] + [row + zero_row(width) for row in other]
    return tails(prime, width, stepped(prime, rows))


def solved(prime, rows, row):
    """A row that a table leads to the given one, or None."""
    width = len(row)
    steps = stepped(prime, rows_and_units(rows))
    low = {at: steps[at] for at in steps if at < width}
    rest = row_beyond(prime, low, row + zero_row(len(rows)))
    if lead_from(rest, 0) < width:
        return None
    return tuple([-number % prime for number in rest[width:]])


def undone_rows(prime, rows):
    """The table that undoes a square one, or None if it is singular."""
    count = len(rows)
    both = reduced(prime, rows_and_units(rows))
    if lead_from(both[-1], 0) >= count:
        return None
    return tuple([row[count:] for row in both])


def row_product(prime, one, other):
    """The product of two rows: the sum of the products, place by place."""
    return sum([a * b for a, b in zip(one, other)]) % prime


def free_places(width, base):
    """The places that are no leads of a reduced base, ascending."""
    steps = steps_of(base)
    return [at for at in range(width) if at not in steps]


def all_rows(prime, width):
    """All rows of a width, ascending."""
    rows = [()]
    for _ in range(width):
        rows = [row + (number,) for row in rows for number in range(prime)]
    return rows


def all_sums(prime, width, base):
    """All sums of multiples of some rows of the width."""
    sums = [zero_row(width)]
    for row in base:
        multiples = [row_times(prime, number, row) for number in range(prime)]
        sums = [row_sum(prime, low, high) for low in sums for high in multiples]
    return sums
