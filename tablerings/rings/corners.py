"""Corners e R f of a ring, and how idempotents are parted and led to one another. Nothing is checked here.

Below, nil is the space J of the ring. A corner e R e of an idempotent e is a ring by itself with the one e.
"""

from tablerings.base.lines import (
    combined, is_within, kernel_rows, reduced, remainder, row_less, row_sum, row_times, unit_rows, zero_row,
)
from tablerings.rings.settled import settler


def corner(ring, one, other):
    """The space of all products of one member, any member and another one."""
    rows = [ring.product(ring.product(one, unit), other) for unit in unit_rows(ring.size)]
    return reduced(ring.prime, rows)


def nil_of_corner(ring, nil, whole):
    """J of the corner of an idempotent."""
    return reduced(ring.prime, [ring.product(ring.product(whole, row), whole) for row in nil])


def rows_modulo(prime, low, space):
    """Rows of a space that are, with a lower space, a base of the sum of both."""
    kept = []
    for row in space:
        if not is_within(prime, reduced(prime, low + tuple(kept)), (row,)):
            kept.append(row)
    return kept


def do_commute(ring, low, rows):
    """Whether all of some members commute modulo a space."""
    products = [(ring.product(one, other), ring.product(other, one)) for one in rows for other in rows]
    return is_within(ring.prime, low, [row_less(ring.prime, ahead, behind) for ahead, behind in products])


def fixed_rows(ring, low, rows):
    """A base of the sums of rows that are their own power by the prime, where the rows commute modulo a space."""
    prime = ring.prime
    changes = [row_less(prime, ring.power(row, prime), row) for row in rows]
    sums = kernel_rows(prime, [remainder(prime, low, change) for change in changes])
    return [combined(prime, ring.size, numbers, rows) for numbers in sums]


def first_no_unit(ring, whole, rows):
    """A sum of multiples of rows, not of 0 alone, that is no unit of the corner of an idempotent."""
    rest = row_less(ring.prime, ring.one, whole)
    sums = [zero_row(ring.size)]
    # A sum is a unit of the corner exactly if it is one of the ring beside what the idempotent leaves of the one.
    # If many rows have only units as sums, each least room of the corner is as large, so this ends soon.
    for row in rows:
        for low in sums:
            found = row_sum(ring.prime, low, row)
            if not ring.is_unit(row_sum(ring.prime, rest, found)):
                return found
        multiples = [row_times(ring.prime, number, row) for number in range(ring.prime)]
        sums = [row_sum(ring.prime, low, high) for low in sums for high in multiples]
    return None


def split_of(ring, nil, whole):
    """An idempotent of the corner of an idempotent, other than 0 and this one; None if it is least."""
    low = nil_of_corner(ring, nil, whole)
    rows = rows_modulo(ring.prime, low, corner(ring, whole, whole))
    if do_commute(ring, low, rows):
        # Modulo J the corner is a product of fields, one for each of the fixed rows.
        rows = fixed_rows(ring, low, rows)
        if len(rows) == 1:
            return None
    blocked = first_no_unit(ring, whole, rows)
    # The products of the makers by what is no unit and not in J cannot all have a power 0: their traces would tell.
    makers = [ring.product(whole, unit) for unit in unit_rows(ring.size)]
    return ring.product(settler(ring, makers, blocked), blocked)


def is_square_of_itself(ring, member):
    """Whether a member is an idempotent."""
    return ring.product(member, member) == member


def is_least_of(ring, nil, member):
    """Whether a member is a least idempotent."""
    if member == zero_row(ring.size) or not is_square_of_itself(ring, member):
        return False
    return split_of(ring, nil, member) is None


def least_parts(ring, nil, whole):
    """Least idempotents with the products 0 that add up to an idempotent."""
    waiting = [] if whole == zero_row(ring.size) else [whole]
    done = []
    while waiting:
        last = waiting.pop()
        part = split_of(ring, nil, last)
        if part is None:
            done.append(last)
        else:
            waiting.append(row_less(ring.prime, last, part))
            waiting.append(part)
    return tuple(done)


def link(ring, one, other):
    """A pair of members whose products are the one and the other least idempotent; None if there is none."""
    makers = corner(ring, one, other)
    for back in corner(ring, other, one):
        ahead = settler(ring, makers, back)
        if ahead is not None:
            return (ahead, back)
    return None


def first_link(ring, one, others, free):
    """The first of some indices at which a least idempotent stands that is like the given one, and a link to it."""
    for at in free:
        pair = link(ring, one, others[at])
        if pair is not None:
            return (at, pair[0], pair[1])
    return None


def links(ring, ones, others):
    """For each of the first least idempotents the index of one of the second ones, and a link to it.

    Each of the second ones is taken at most once; None if some first one finds none.
    """
    found = []
    free = list(range(len(others)))
    for one in ones:
        # Likeness goes on from one to the next, so it does not matter which of several like ones is taken.
        told = first_link(ring, one, others, free)
        if told is None:
            return None
        free.remove(told[0])
        found.append(told)
    return found


def sum_of_all(ring, members):
    """The sum of some members."""
    return combined(ring.prime, ring.size, (1,) * len(members), members)
