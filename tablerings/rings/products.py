"""Products that are told by a table of products. Nothing is checked here, and the table need not be that of a ring."""

from tablerings.base.checks import is_square
from tablerings.base.lines import at_places, combined, flat, solved, unit_rows


def multiplied(prime, table, one, other):
    """The product of two members."""
    total = [0] * len(table)
    for number, rows in zip(one, table):
        if number:
            for times, row in zip(other, rows):
                if times:
                    total = [a + number * times * b for a, b in zip(total, row)]
    return tuple([a % prime for a in total])


def power_of(prime, table, unit, member, number):
    """The product of so many times a member, the unit being that of none."""
    power = unit
    square = member
    rest = number
    while rest:
        if rest % 2 == 1:
            power = multiplied(prime, table, power, square)
        rest = rest // 2
        # The last square would be of no use.
        if rest:
            square = multiplied(prime, table, square, square)
    return power


def inverse_of(prime, table, unit, member):
    """The member with which the product is the unit, or None."""
    rows = [multiplied(prime, table, member, row) for row in unit_rows(len(table))]
    return solved(prime, rows, unit)


def is_product_table(prime, value, most):
    """Whether a value is a tuple of n tuples of n rows of the width n, n from 1 on."""
    if not isinstance(value, tuple) or not 1 <= len(value) <= most:
        return False
    return all([is_square(prime, len(value), rows) for rows in value])


def ungrouped(prime, table):
    """The least triple of base members whose products do not group, or None."""
    size = len(table)
    for one in range(size):
        for other in range(size):
            for last in range(size):
                first = combined(prime, size, table[one][other], [rows[last] for rows in table])
                if first != combined(prime, size, table[other][last], table[one]):
                    return (one, other, last)
    return None


def one_of(prime, table):
    """The member that is the one on both sides, or None."""
    units = unit_rows(len(table))
    found = solved(prime, [flat(rows) for rows in table], flat(units))
    if found is None:
        return None
    # If there is a one, no other member is the one on the left, so what was found is it.
    if any([multiplied(prime, table, unit, found) != unit for unit in units]):
        return None
    return found


def fault_of(prime, table):
    """What bars a table from being that of a ring, or None."""
    triple = ungrouped(prime, table)
    if triple is not None:
        return ("group", triple[0], triple[1], triple[2])
    if one_of(prime, table) is None:
        return ("one",)
    return None


def table_at(prime, table, base, places):
    """The table of the products of base rows, each told by what stands at some places."""
    return tuple([tuple([at_places(multiplied(prime, table, one, other), places) for other in base]) for one in base])
