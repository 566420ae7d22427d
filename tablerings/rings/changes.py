"""Derivations and splitters of a ring, closed 2-rows and changes, and the lifts of products."""

from tablerings.base.checks import is_square
from tablerings.base.lanes import LANE, Echelon, Lanes, joined, packed, summed
from tablerings.base.lines import (
    combined, flat, kernel_of, reduced, row_less, row_sum, row_times, solved, solved_numbers, unit_row, unit_rows,
    zero_row,
)
from tablerings.errors import InvalidTable, Refused, TooMany
from tablerings.rings.ideals import unlike_products
from tablerings.rings.products import columns_of, is_product_table, lines_of_products, wholes_of
from tablerings.rings.rings import check_ring, sound_ring

MAX_CHANGED = 4


def unit_changes(ring):
    """The numbers of the changes of the maps that lead one base member to another one, and all others to 0."""
    size = ring.size
    places = range(size)
    lines, lanes = lines_of_products(ring.table), Lanes(ring.prime, size ** 3)
    numbers = []
    for source in places:
        signs = [[-ring.table[one][other][source] % ring.prime for other in places] for one in places]
        for goal in places:
            blocks = [[sign << (size - 1 - goal) * LANE for sign in line] for line in signs]
            for at in places:
                blocks[at][source] = blocks[at][source] + lines[at][goal]
                blocks[source][at] = blocks[source][at] + lines[goal][at]
            numbers.append(lanes.settled(joined(size, flat(blocks))))
    return numbers


def change_rows(ring, table):
    """The change of a map."""
    prime, size, units = ring.prime, ring.size, unit_rows(ring.size)

    def changed(one, other):
        """What the change has at two base members."""
        both = row_sum(prime, ring.bare_product(units[one], table[other]), ring.bare_product(table[one], units[other]))
        return row_less(prime, both, combined(prime, size, ring.table[one][other], table))

    return tuple([tuple([changed(one, other) for other in range(size)]) for one in range(size)])


def gap_number(ring, row):
    """The number of all a f(b, c) - f(a b, c) + f(a, b c) - f(a, b) c for base members, side by side; f is a 2-row."""
    prime, size, table = ring.prime, ring.size, ring.table
    lines, some = lines_of_products(table), lines_of_products(row)
    wholes, some_wholes = wholes_of(lines), wholes_of(some)
    columns, some_columns = columns_of(table), columns_of(row)
    lanes = Lanes(prime, size * size)
    gaps = []
    for one in range(size):
        for other in range(size):
            gap = summed(some_columns[other], lines[one]) + summed(columns[other], some[one])
            gap += summed([prime - number for number in table[one][other]], some_wholes)
            gap += summed([prime - number for number in row[one][other]], wholes)
            gaps.append(lanes.settled(gap))
    return joined(size * size, gaps)


def is_two_row(ring, value):
    """Whether a value is a 2-row."""
    return is_product_table(ring.prime, value, ring.size) and len(value) == ring.size


def check_two_row(ring, row):
    """Refuse what is no 2-row."""
    if not is_two_row(ring, row):
        raise InvalidTable("no 2-row of the ring")


def check_changed(ring):
    """Refuse a ring the 2-rows of which are too many."""
    if ring.size > MAX_CHANGED:
        raise TooMany(MAX_CHANGED)


def check_open(ring, row):
    """Refuse a 2-row of a ring that is too great, or one that is not closed."""
    check_changed(ring)
    if gap_number(ring, row):
        raise Refused(("open",))


def derivations(ring):
    """The space of all derivations, told row by row."""
    check_ring(ring)
    # A map is a derivation exactly if its change is 0.
    return kernel_of(ring.prime, ring.size ** 3, unit_changes(ring))


def inner_derivations(ring):
    """The space of all inner derivations, told row by row."""
    check_ring(ring)
    units = unit_rows(ring.size)
    return reduced(ring.prime, [flat([unlike_products(ring, member, unit) for unit in units]) for member in units])


def is_derivation(ring, value):
    """Whether a value is a table that is a derivation."""
    check_ring(ring)
    if not is_square(ring.prime, ring.size, value):
        return False
    nothing = zero_row(ring.size)
    return all([row == nothing for rows in change_rows(ring, value) for row in rows])


def splitter(ring):
    """A splitter, or None if there is none."""
    check_ring(ring)
    size, rows = ring.size, []
    places = range(size)
    for i in places:
        for j in places:
            told = [ring.table[i][j]]
            # What a base member ahead of e_i beside e_j comes to, less what comes of it behind, as one table for each.
            for k in places:
                ahead = [row_times(ring.prime, number, unit_row(size, j)) for number in ring.table[k][i]]
                ahead[i] = row_less(ring.prime, ahead[i], ring.table[j][k])
                told.extend(ahead)
            rows.append(flat(told))
    found = solved(ring.prime, rows, ring.one + zero_row(size ** 3))
    if found is None:
        return None
    return tuple([found[at * size:(at + 1) * size] for at in places])


def is_splitter(ring, value):
    """Whether a value is a splitter."""
    check_ring(ring)
    prime, size, units = ring.prime, ring.size, unit_rows(ring.size)
    if not is_square(prime, size, value):
        return False
    products = [ring.bare_product(unit, row) for unit, row in zip(units, value)]
    if combined(prime, size, (1,) * size, products) != ring.one:
        return False
    for k, unit in enumerate(units):
        ahead = [combined(prime, size, [row[at] for row in ring.table[k]], value) for at in range(size)]
        if ahead != [ring.bare_product(row, unit) for row in value]:
            return False
    return True


def change_of(ring, table):
    """The change of a map of the ring."""
    check_ring(ring)
    if not is_square(ring.prime, ring.size, table):
        raise InvalidTable("no map of the ring")
    return change_rows(ring, table)


def is_closed(ring, value):
    """Whether a value is a closed 2-row."""
    check_ring(ring)
    return is_two_row(ring, value) and gap_number(ring, value) == 0


def change_source(ring, row):
    """A map whose change is a closed 2-row, or None if there is none."""
    check_ring(ring)
    check_two_row(ring, row)
    check_open(ring, row)
    size = ring.size
    found = solved_numbers(ring.prime, size ** 3, unit_changes(ring), packed(flat([flat(rows) for rows in row])))
    if found is None:
        return None
    return tuple([found[at * size:(at + 1) * size] for at in range(size)])


def unit_two_row(size, one, other, place):
    """The 2-row with 1 at one place for one pair of base members, and 0 elsewhere."""
    nothing = zero_row(size)
    rows = [nothing] * other + [unit_row(size, place)] + [nothing] * (size - other - 1)
    return ((nothing,) * size,) * one + (tuple(rows),) + ((nothing,) * size,) * (size - one - 1)


def change_sizes(ring):
    """How many closed 2-rows and how many changes are independent."""
    check_ring(ring)
    check_changed(ring)
    size = ring.size
    places = range(size)
    gaps, changes = Echelon(ring.prime, size ** 4), Echelon(ring.prime, size ** 3)
    gaps.take_all([gap_number(ring, unit_two_row(size, i, j, k)) for i in places for j in places for k in places])
    changes.take_all(unit_changes(ring))
    return (size ** 3 - len(gaps.rows), len(changes.rows))


def lift_ring(ring, row):
    """The lift of the ring along a closed 2-row."""
    check_ring(ring)
    check_two_row(ring, row)
    check_open(ring, row)
    nothing = zero_row(ring.size)
    tables = []
    for products, bent in zip(ring.table, row):
        beside = [nothing + product for product in products]
        tables.append(tuple([product + more for product, more in zip(products, bent)] + beside))
    # Behind stand the base members of the ideal, whose products with one another are 0.
    for products in ring.table:
        tables.append(tuple([nothing + product for product in products]) + (nothing + nothing,) * ring.size)
    ahead = [combined(ring.prime, ring.size, ring.one, rows) for rows in row]
    bent_one = combined(ring.prime, ring.size, ring.one, ahead)
    return sound_ring(ring.prime, tuple(tables), ring.one + row_times(ring.prime, -1, bent_one))
