"""Split subrings: subrings that have nothing of J and are, with J, the whole ring."""

from tablerings.base.checks import is_base
from tablerings.base.counting import powered
from tablerings.base.lines import (
    combined, flat, is_within, kernel_rows, meet_rows, reduced, row_less, row_sum, solved, zero_row,
)
from tablerings.base.splitting import first_told, order_poly
from tablerings.base.polywork import factor_pairs
from tablerings.errors import InvalidSpace
from tablerings.rings.corners import corner, corner_of, link, rows_modulo
from tablerings.rings.frames import frame_of, nil_of
from tablerings.rings.rings import check_ring, is_subring


def field_maker(ring, nil, one, degree):
    """A member of the corner of a least idempotent whose powers make a field that is, with J, all of the corner."""
    def told(row):
        """The row, if its powers make all of the corner modulo J."""
        pairs = factor_pairs(ring.prime, order_poly(ring.prime, ring.ahead_lines(row), one))
        return row if len(pairs[0][0]) == degree + 1 else None

    rows = rows_modulo(ring.prime, corner_of(ring, nil, one, one), corner(ring, one, one))
    maker = first_told(ring.prime, ring.size, rows, told, 1)
    # A maker is the sum of a member of a field and of one with a power 0, which a power by the prime leads to 0.
    number = 1
    while number < ring.size:
        maker = ring.bare_power(maker, ring.prime)
        number = number * ring.prime
    return maker


def split_rows(ring, nil, lot, degree):
    """A base of full tables over a field with a lot of like idempotents as the units at equal indices."""
    first = lot[0]
    maker = field_maker(ring, nil, first, degree)
    powers = [first]
    for _ in range(degree - 1):
        powers.append(ring.bare_product(powers[-1], maker))
    links = [link(ring, nil, first, member) for member in lot]
    rows = []
    for back in links:
        behind = [ring.bare_product(back[1], power) for power in powers]
        rows.extend([ring.bare_product(row, ahead[0]) for row in behind for ahead in links])
    return rows


def split_subring(ring):
    """A split subring."""
    check_ring(ring)
    frame, nil = frame_of(ring), nil_of(ring)
    rows = [row for lot, degree in zip(frame.lots, frame.degrees) for row in split_rows(ring, nil, lot, degree)]
    return reduced(ring.prime, rows)


def is_split_subring(ring, value):
    """Whether a value is a split subring."""
    check_ring(ring)
    if not is_base(ring.prime, ring.size, value) or not is_subring(ring, value):
        return False
    nil = nil_of(ring)
    return len(value) + len(nil) == ring.size and not meet_rows(ring.prime, ring.size, value, nil)


def check_split_subrings(ring, one, other):
    """Refuse what are no two split subrings of a ring."""
    check_ring(ring)
    if not is_split_subring(ring, one) or not is_split_subring(ring, other):
        raise InvalidSpace("no split subring")


def matched_rows(ring, nil, one, other):
    """For each base row of a split subring the member of another one that has the same class modulo J."""
    rows = other + nil
    numbers = [solved(ring.prime, rows, row) for row in one]
    return [combined(ring.prime, ring.size, some, other) for some in numbers]


def leading_nil(ring, one, other):
    """A member j of J with which the one more leads a split subring to another one."""
    check_split_subrings(ring, one, other)
    nil = nil_of(ring)
    matched = matched_rows(ring, nil, one, other)
    if not nil:
        return zero_row(ring.size)
    # What is asked for is j s - t j = t - s for each base row s of the one and the row t with its class of the other.
    rows = [flat([row_less(ring.prime, ring.bare_product(row, s), ring.bare_product(t, row))
                  for s, t in zip(one, matched)]) for row in nil]
    goal = flat([row_less(ring.prime, t, s) for s, t in zip(one, matched)])
    return combined(ring.prime, ring.size, solved(ring.prime, rows, goal), nil)


def is_leading_nil(ring, one, other, value):
    """Whether a value is such a member of J."""
    check_split_subrings(ring, one, other)
    if value not in ring or not is_within(ring.prime, nil_of(ring), (value,)):
        return False
    unit = row_sum(ring.prime, ring.one, value)
    led = [ring.bare_product(unit, row) for row in one]
    return reduced(ring.prime, led) == reduced(ring.prime, [ring.bare_product(row, unit) for row in other])


def split_number(ring):
    """The number of the split subrings."""
    space = split_subring(ring)
    nil = nil_of(ring)
    if not nil:
        return 1
    rows = [flat([row_less(ring.prime, ring.bare_product(row, s), ring.bare_product(s, row)) for s in space])
            for row in nil]
    return powered(ring.prime, len(nil) - len(kernel_rows(ring.prime, rows)))
