"""Corners e R f of a ring, and how idempotents are parted and led to one another. Nothing is checked here.

Below, nil is the space J of the ring. A corner e R e of an idempotent e is a ring by itself with the one e.
"""

from tablerings.base.lines import combined, is_within, reduced, row_less, solved, unit_rows, zero_row
from tablerings.base.polywork import factor_pairs, product_of_polys, rest_of_poly
from tablerings.base.splitting import first_told, order_poly, poly_led, undone_poly


def corner(ring, one, other):
    """The space of all products of one member, any member and another one."""
    return corner_of(ring, unit_rows(ring.size), one, other)


def corner_of(ring, rows, one, other):
    """The space of all products of one member, a sum of some members and another one."""
    ahead = reduced(ring.prime, [ring.bare_product(one, row) for row in rows])
    return reduced(ring.prime, [ring.bare_product(row, other) for row in ahead])


def rows_modulo(prime, low, space):
    """Rows of a space that are, with a lower space, a base of the sum of both."""
    kept = []
    for row in space:
        if not is_within(prime, reduced(prime, low + tuple(kept)), (row,)):
            kept.append(row)
    return kept


def part_by(ring, whole, member, degree):
    """What a member of the corner of an idempotent tells of it.

    An idempotent of the corner other than 0 and the whole, if the polynomial of the member has unlike factors; 0 if its
    one factor has the degree, so that the powers of the member are, modulo J, all of the corner; None otherwise.
    """
    lines = ring.ahead_lines(member)
    pairs = factor_pairs(ring.prime, order_poly(ring.prime, lines, whole))
    if len(pairs) == 1:
        return zero_row(ring.size) if len(pairs[0][0]) == degree + 1 else None
    powers = [power_of_poly(ring.prime, factor, times) for factor, times in pairs]
    first = powers[0]
    others = powers[1]
    for power in powers[2:]:
        others = product_of_polys(ring.prime, others, power)
    # Modulo the others this polynomial is 1, and modulo the first power it is 0.
    told = product_of_polys(ring.prime, first, undone_poly(ring.prime, rest_of_poly(ring.prime, first, others), others))
    return poly_led(ring.prime, told, lines, whole)


def power_of_poly(prime, poly, times):
    """The product of so many times a polynomial."""
    power = (1,)
    for _ in range(times):
        power = product_of_polys(prime, power, poly)
    return power


def split_of(ring, nil, whole):
    """An idempotent of the corner of an idempotent, other than 0 and this one; None if it is least."""
    low = corner_of(ring, nil, whole, whole)
    rows = rows_modulo(ring.prime, low, corner(ring, whole, whole))
    degree = len(rows)
    if degree == 1:
        return None
    # If the corner modulo J is a field, some base member of it or the sum of two tells so, as no two spaces other than
    # the whole have all of these in them. Otherwise it has idempotents.
    part = first_told(ring.prime, ring.size, rows, lambda row: part_by(ring, whole, row, degree), 1)
    return None if part == zero_row(ring.size) else part


def least_parts(ring, nil, whole):
    """Least idempotents with the products 0 that add up to an idempotent."""
    waiting = [] if whole == zero_row(ring.size) else [whole]
    done = []
    while waiting:
        last = waiting.pop()
        part = split_of(ring, nil, last)
        if part is None:
            done.append(last)
        else:
            waiting.append(row_less(ring.prime, last, part))
            waiting.append(part)
    return tuple(done)


def link(ring, nil, one, other):
    """A pair of members whose products are the one and the other least idempotent; None if they are unlike."""
    for back in corner(ring, other, one):
        # What is not in J leads each room of the one idempotent to one of the other, one to one.
        if not is_within(ring.prime, nil, (back,)):
            rows = corner(ring, one, other)
            numbers = solved(ring.prime, [ring.bare_product(row, back) for row in rows], one)
            return (combined(ring.prime, ring.size, numbers, rows), back)
    return None


def first_link(ring, nil, one, others, free):
    """The first of some indices at which a least idempotent stands that is like the given one, and a link to it."""
    for at in free:
        pair = link(ring, nil, one, others[at])
        if pair is not None:
            return (at, pair[0], pair[1])
    return None


def links(ring, nil, ones, others):
    """For each of the first least idempotents the index of a like one of the second ones, and a link to it.

    Each of the second ones is taken once; there are as many of each likeness among both.
    """
    found = []
    free = list(range(len(others)))
    for one in ones:
        # Likeness goes on from one to the next, so it does not matter which of several like ones is taken.
        told = first_link(ring, nil, one, others, free)
        free.remove(told[0])
        found.append(told)
    return found


def sum_of_all(ring, members):
    """The sum of some members."""
    return combined(ring.prime, ring.size, (1,) * len(members), members)
