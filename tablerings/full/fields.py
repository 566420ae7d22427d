"""Full tables over fields: their kind, what leads their members to one another, pairs that commute, signed sums."""

from tablerings.base.checks import are_rows, check_from_to, check_prime
from tablerings.base.counting import powered
from tablerings.base.lanes import LANE, Echelon, Lanes, packed, summed
from tablerings.base.lines import (
    all_rows, at_places, flat, free_places, kernel_rows, lead_from, leads_of, reduced, row_less, row_sum, row_times,
    solved, unit_rows, zero_row,
)
from tablerings.base.polys import first_irreducible
from tablerings.errors import InvalidOperation, InvalidRow, Refused, TooMany
from tablerings.rings.frames import frame_of, nil_of
from tablerings.rings.ideals import commuting, unlike_products
from tablerings.rings.makers import full_places, one_of_places, table_of_places, table_of_poly
from tablerings.rings.products import table_at
from tablerings.rings.radical import check_tried
from tablerings.rings.rings import MAX_SIDE, MAX_SIZE, Ring, check_members, check_ring, sound_ring
from tablerings.rooms.least import least_of, member_rows
from tablerings.rooms.likeness import alike_of_all
from tablerings.rooms.rooms import sound_room

MAX_TRIED = 5000
MAX_FACTORS = 6
MAX_FIELD = 6
MAX_LED = 4


def check_field(prime, degree):
    """Refuse what are no prime and no degree of a field."""
    check_prime(prime)
    check_from_to(degree, 1, MAX_FIELD)


def check_full_size(prime, degree, side):
    """Refuse what are no prime, degree and side of full tables that a ring can have."""
    check_field(prime, degree)
    check_from_to(side, 1, MAX_SIDE)
    if side * side * degree > MAX_SIZE:
        raise TooMany(MAX_SIZE)


def field_ring(prime, degree):
    """The field of a degree."""
    check_field(prime, degree)
    return Ring.of_poly(prime, first_irreducible(prime, degree))


def full_over(prime, degree, side):
    """All tables of a side over the field of a degree."""
    check_full_size(prime, degree, side)
    places = full_places(side)
    tables, powers = table_of_places(places), table_of_poly(prime, first_irreducible(prime, degree))
    pairs = [(at, power) for at in range(len(places)) for power in range(degree)]

    def product(one, other):
        """The product of two base members, told by the indices of their places and by their powers."""
        made = powers[one[1]][other[1]]
        return flat([row_times(prime, number, made) for number in tables[one[0]][other[0]]])

    table = tuple([tuple([product(one, other) for other in pairs]) for one in pairs])
    return sound_ring(prime, table, flat([(number,) + zero_row(degree - 1) for number in one_of_places(places)]))


def kind_of_full(ring):
    """The pair of the side and the degree of a full ring; refuse one that is not full."""
    frame = frame_of(ring)
    if nil_of(ring) or len(frame.lots) != 1:
        raise Refused(("full",))
    return (len(frame.lots[0]), frame.degrees[0])


def full_kind(ring):
    """The pair of the side and the degree of a full ring."""
    check_ring(ring)
    return kind_of_full(ring)


def double_centralizer(ring, members):
    """The space of the members that commute with all that commute with some members of a full ring."""
    check_ring(ring)
    check_members(ring, members)
    kind_of_full(ring)
    return commuting(ring, commuting(ring, reduced(ring.prime, members)))


def check_led(ring, members):
    """Refuse what is no tuple of one to four members."""
    if not are_rows(ring.prime, ring.size, members, MAX_LED) or not members:
        raise InvalidRow("no tuple of one to four members")


def check_leading(ring, one, other):
    """Refuse what are no two tuples of equally many members of a full ring."""
    check_ring(ring)
    check_led(ring, one)
    check_led(ring, other)
    kind_of_full(ring)
    if len(one) != len(other):
        raise InvalidOperation("the tuples have unequal lengths")


def led_pairs(ring, one, other):
    """A base of the pairs of a member of a subring and of what a map of rings leads it to, or None if there is no map.

    The subring is that which the centre and some members make; the map leaves the centre and leads these members to
    others. The first members of the pairs are its reduced base.
    """
    size, found = ring.size, Echelon(ring.prime, 2 * ring.size)
    makers = [(row, row) for row in commuting(ring, unit_rows(size))] + list(zip(one, other))
    waiting = [(ring.one, ring.one)]
    while waiting:
        member, goal = waiting.pop()
        rest = found.rest(packed(member + goal))
        # Sums and products of pairs are pairs again, so 0 beside a goal other than 0 bars each map.
        if 0 < rest < 1 << size * LANE:
            return None
        if found.take(rest):
            waiting.extend([(ring.bare_product(member, maker), ring.bare_product(goal, by)) for maker, by in makers])
    return [(row[:size], row[size:]) for row in found.base(2 * size)]


def is_leading_map(ring, one, other):
    """Whether a map of rings leaves the centre of a full ring and leads some members to others."""
    check_leading(ring, one, other)
    return led_pairs(ring, one, other) is not None


def leads_all(ring, one, other, member):
    """Whether the products of a member with some members behind it are those with others ahead of it."""
    return all([ring.bare_product(member, a) == ring.bare_product(b, member) for a, b in zip(one, other)])


def leading_space(ring, one, other):
    """The space of the members, units or not, whose products with some members behind are those with others ahead."""
    rows = [flat([row_less(ring.prime, ring.bare_product(unit, a), ring.bare_product(b, unit))
                  for a, b in zip(one, other)]) for unit in unit_rows(ring.size)]
    return kernel_rows(ring.prime, rows)


def leading_found(ring, one, other):
    """A unit that leads some members of a full ring to others, or None."""
    pairs = led_pairs(ring, one, other)
    if pairs is None:
        return None
    space, low = tuple([member for member, _ in pairs]), least_of(ring)[0]
    leads = leads_of(space)
    subring = sound_ring(ring.prime, table_at(ring, space, leads), at_places(ring.one, leads))
    # The least room of the ring is one of the subring in two ways: by its members, and by those that they are led to.
    # What leads the one way to the other one goes along with the centre, and so it is what a unit makes of vectors.
    before = sound_room(subring, tuple([tuple(member_rows(low, member)) for member, _ in pairs]))
    behind = sound_room(subring, tuple([tuple(member_rows(low, goal)) for _, goal in pairs]))
    table = alike_of_all(before, behind)
    if table is None:
        return None
    return solved(ring.prime, [flat(rows) for rows in low.tables], flat(table))


def leading_unit_of(ring, one, other):
    """A unit that leads some members of a full ring to others, or None if there is none."""
    check_leading(ring, one, other)
    if powered(ring.prime, len(leading_space(ring, one, other))) > MAX_TRIED:
        raise TooMany(MAX_TRIED)
    return leading_found(ring, one, other)


def is_leading_unit_of(ring, one, other, value):
    """Whether a value is a unit that leads some members of a full ring to others."""
    check_leading(ring, one, other)
    return ring.is_unit(value) and leads_all(ring, one, other, value)


def pair_number(prime, degree, side):
    """How many pairs of full tables over a field commute, by a formula."""
    check_full_size(prime, degree, side)
    q = powered(prime, degree)
    if side == 1:
        return q ** 2
    if side == 2:
        return q ** 6 + q ** 5 - q ** 3
    w = (q ** 3 - 1) * (q ** 3 + q ** 2 + q)
    return q ** 10 + w * q ** 5 + (q ** 9 - q - w) * q ** 3


def gap_lines(ring, places):
    """For each base member and each of those at some places the number of their product less that the other way."""
    units = unit_rows(ring.size)
    return [[packed(unlike_products(ring, units[at], unit)) for at in places] for unit in units]


def pairs_counted(ring):
    """How many pairs of members commute, by the centralizers of all members."""
    check_ring(ring)
    check_tried(ring)
    prime, size, centre = ring.prime, ring.size, commuting(ring, unit_rows(ring.size))
    places = free_places(size, centre)
    lines, lanes = gap_lines(ring, places), Lanes(prime, size)
    total = powered(prime, size)
    # Members that differ by one of the centre, or are multiples of one another, have one centralizer.
    for row in all_rows(prime, len(places)):
        lead = lead_from(row, 0)
        if lead < len(row) and row[lead] == 1:
            gaps = Echelon(prime, size)
            gaps.take_all([lanes.settled(summed(row, line)) for line in lines])
            total += (prime - 1) * powered(prime, size - len(gaps.rows))
    return total * powered(prime, len(centre))


def signed_sum(ring, members):
    """The sum of the products of some members in all sequences, times -1 for an odd number of pairs out of order."""
    check_ring(ring)
    if not are_rows(ring.prime, ring.size, members, MAX_FACTORS) or not members:
        raise InvalidRow("no tuple of one to six members")
    # The sum for a lot, told by the digits of a number, comes of those for the lots without its last factor.
    sums = [ring.one]
    for lot in range(1, 1 << len(members)):
        total, sign = zero_row(ring.size), 1
        for at, member in reversed(list(enumerate(members))):
            if lot >> at & 1:
                made = ring.bare_product(sums[lot - (1 << at)], member)
                total, sign = row_sum(ring.prime, total, row_times(ring.prime, sign, made)), -sign
        sums.append(total)
    return sums[-1]
