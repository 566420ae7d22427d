"""Products that are told by a table of products. Nothing is checked here, and the table need not be that of a ring."""

from tablerings.base.checks import is_square
from tablerings.base.lanes import LANE, Lanes, joined, packed, summed
from tablerings.base.lines import at_places, combined, flat, solved, unit_rows


def is_product_table(prime, value, most):
    """Whether a value is a tuple of n tuples of n rows of the width n, n from 1 on."""
    if not isinstance(value, tuple) or not 1 <= len(value) <= most:
        return False
    return all([is_square(prime, len(value), rows) for rows in value])


def lines_of_products(table):
    """The numbers of the products of base members."""
    return [[packed(row) for row in rows] for rows in table]


def wholes_of(lines):
    """For each base member the number of all its products with others behind it, side by side."""
    return [joined(len(lines), line) for line in lines]


def columns_of(table):
    """For each base member and each place the numbers that its products have there, each at the end of its lanes."""
    places = range(len(table))
    return [[joined(len(table), [row[at] for row in rows]) for at in places] for rows in table]


def ungrouped(prime, table):
    """The least triple of base members whose products do not group, or None."""
    size = len(table)
    lanes = Lanes(prime, size * size)
    lines = lines_of_products(table)
    # Both products of a pair with all third members are compared at once, the third members side by side.
    wholes = wholes_of(lines)
    columns = columns_of(table)
    for one in range(size):
        for other in range(size):
            first = lanes.settled(summed(table[one][other], wholes))
            second = lanes.settled(summed(columns[other], lines[one]))
            if first != second:
                lane = (first ^ second).bit_length() // LANE
                return (one, other, (size * size - 1 - lane) // size)
    return None


def one_of(prime, table):
    """The member that is the one on both sides, or None."""
    units = unit_rows(len(table))
    found = solved(prime, [flat(rows) for rows in table], flat(units))
    if found is None:
        return None
    # If there is a one, no other member is the one on the left, so what was found is it.
    if any([combined(prime, len(table), found, rows) != unit for rows, unit in zip(table, units)]):
        return None
    return found


def fault_of(prime, table):
    """What bars a table from being that of a ring, or None."""
    triple = ungrouped(prime, table)
    if triple is not None:
        return ("group", triple[0], triple[1], triple[2])
    if one_of(prime, table) is None:
        return ("one",)
    return None


def table_at(ring, base, places):
    """The table of the products of base rows of a ring, each told by what stands at some places."""
    return tuple([tuple([at_places(ring.bare_product(one, other), places) for other in base]) for one in base])
