"""Full parts: what a ring without J is made of, full tables over fields, and what is counted by them."""

from tablerings.base.counting import powered
from tablerings.base.lines import is_within, reduced, solved, unit_rows, zero_row
from tablerings.base.polywork import is_prime_poly
from tablerings.base.splitting import first_told, order_poly
from tablerings.errors import InvalidOperation, Refused
from tablerings.rings.corners import least_parts, link, sum_of_all
from tablerings.rings.frames import central_sums, frame_of, nil_of
from tablerings.rings.ideals import commuting
from tablerings.rings.rings import check_member, check_member_space, check_ring


def kinds(ring):
    """The ascending pairs of the side and the degree of the full tables that the ring modulo J is made of."""
    check_ring(ring)
    frame = frame_of(ring)
    return tuple(sorted([(len(lot), degree) for lot, degree in zip(frame.lots, frame.degrees)]))


def products_by(ring, rows, member):
    """The space of all sums of products of some members and one member."""
    return reduced(ring.prime, [ring.bare_product(row, member) for row in rows])


def ones_of_parts(ring):
    """The dict from the parts of a ring whose J is 0 to their ones; refuse another ring."""
    if nil_of(ring):
        raise Refused(("radical",))
    units = unit_rows(ring.size)
    return {products_by(ring, units, one): one for one in central_sums(ring)}


def one_of_part(ring, space):
    """The one of a part; refuse what is no part."""
    ones = ones_of_parts(ring)
    if space not in ones:
        raise Refused(("part",))
    return ones[space]


def full_parts(ring):
    """The ascending least two-sided ideals of a ring whose J is 0."""
    check_ring(ring)
    return tuple(sorted(ones_of_parts(ring)))


def part_one(ring, space):
    """The one of a part."""
    check_ring(ring)
    check_member_space(ring, space)
    return one_of_part(ring, space)


def units_of_part(ring, one):
    """Units of the part with a one."""
    members = least_parts(ring, (), one)
    # Each link leads the first idempotent to another one and back; a way back and a way ahead make a unit.
    links = [link(ring, (), members[0], member) for member in members]
    return tuple([tuple([ring.bare_product(back[1], ahead[0]) for ahead in links]) for back in links])


def maker_of_field(ring, rows, one):
    """A sum of the base rows of a field with an idempotent as its one whose powers are, added up, all of the field."""
    def told(row):
        """The row, if it makes all of the field."""
        return row if len(order_poly(ring.prime, ring.ahead_lines(row), one)) == len(rows) + 1 else None

    # What makes less lies in one of at most two greatest lesser fields, so some row or sum of two rows will do.
    return first_told(ring.prime, ring.size, rows, told, 1)


def part_paper(ring, space):
    """Units of a part, and a maker of what commutes in it."""
    one = part_one(ring, space)
    field = products_by(ring, commuting(ring, unit_rows(ring.size)), one)
    return (units_of_part(ring, one), maker_of_field(ring, field, one))


def is_square_of_members(ring, space, value):
    """Whether a value is a tuple of at least one tuple, of as many members of a space each."""
    if not isinstance(value, tuple) or not 1 <= len(value) <= ring.size:
        return False
    for line in value:
        if not isinstance(line, tuple) or len(line) != len(value) or not all([member in ring for member in line]):
            return False
    return all([is_within(ring.prime, space, line) for line in value])


def are_units(ring, one, units):
    """Whether the products of some rows of members are those of units that have a one."""
    places = range(len(units))
    nothing = zero_row(ring.size)
    if sum_of_all(ring, [units[at][at] for at in places]) != one:
        return False
    for i in places:
        for j in places:
            for k in places:
                made = [ring.bare_product(units[i][j], unit) for unit in units[k]]
                if made != [units[i][at] if j == k else nothing for at in places]:
                    return False
    return True


def is_maker(ring, space, one, value, degree):
    """Whether a value is a member of a part that commutes in it and has an irreducible polynomial of a degree."""
    if value not in ring or not is_within(ring.prime, space, (value,)):
        return False
    if any([ring.bare_product(value, row) != ring.bare_product(row, value) for row in space]):
        return False
    poly = order_poly(ring.prime, ring.ahead_lines(value), one)
    return len(poly) == degree + 1 and is_prime_poly(ring.prime, poly)


def is_paper_of(ring, space, one, value):
    """Whether a value is a part paper of the part with a one."""
    if not isinstance(value, tuple) or len(value) != 2 or not is_square_of_members(ring, space, value[0]):
        return False
    square = len(value[0]) * len(value[0])
    if len(space) // square * square != len(space) or not are_units(ring, one, value[0]):
        return False
    return is_maker(ring, space, one, value[1], len(space) // square)


def is_part_paper(ring, space, value):
    """Whether a value is a part paper of a part."""
    return is_paper_of(ring, space, part_one(ring, space), value)


def power_rows(ring, maker, start, count):
    """So many products of powers of a maker, that of none ahead, and a member."""
    rows = [start]
    for _ in range(count - 1):
        rows.append(ring.bare_product(maker, rows[-1]))
    return rows


def part_entries(ring, space, paper, member):
    """The table of rows of residues that stand at the powers of the maker, as a paper tells the part of a member."""
    check_ring(ring)
    check_member_space(ring, space)
    check_member(ring, member)
    one = one_of_part(ring, space)
    if not is_paper_of(ring, space, one, paper):
        raise InvalidOperation("no part paper of this part")
    units, maker = paper
    degree = len(space) // (len(units) * len(units))
    rows = [row for line in units for unit in line for row in power_rows(ring, maker, unit, degree)]
    numbers = solved(ring.prime, rows, ring.bare_product(one, member))
    entries = [numbers[at:at + degree] for at in range(0, len(rows), degree)]
    return tuple([tuple(entries[at:at + len(units)]) for at in range(0, len(entries), len(units))])


def product_of_all(numbers):
    """The product of some numbers."""
    total = 1
    for number in numbers:
        total = total * number
    return total


def unit_number(ring):
    """How many units there are, told by the kinds."""
    counts = []
    for side, degree in kinds(ring):
        whole = powered(ring.prime, degree * side)
        counts.extend([whole - powered(ring.prime, degree * at) for at in range(side)])
    return product_of_all(counts) * powered(ring.prime, len(nil_of(ring)))


def nilpotent_number(ring):
    """How many members have a power 0, told by the kinds."""
    exponents = [degree * (side * side - side) for side, degree in kinds(ring)]
    return powered(ring.prime, len(nil_of(ring)) + sum(exponents))


def idempotent_kinds(ring):
    """How many classes of idempotents that units lead to one another there are."""
    return product_of_all([side + 1 for side, _ in kinds(ring)])
