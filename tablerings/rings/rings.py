"""Rings: products of rows of residues that group, with a one."""

from tablerings.base.checks import (
    are_rows, check_from_to, check_prime, is_base, is_from_to, is_integer, is_row, is_short_integer, is_square,
)
from tablerings.base.counting import powered
from tablerings.base.lanes import FULL_LANE, Echelon, Lanes, summed, unpacked
from tablerings.base.lines import (
    at_places, combined, is_within, leads_of, reduced, row_sum, row_times, rows_followed, solved, undone_rows, unit_row,
)
from tablerings.base.polywork import is_some_poly
from tablerings.errors import (
    InvalidNumber, InvalidOperation, InvalidPoly, InvalidRing, InvalidRow, InvalidSpace, InvalidTable, Refused,
    TooMany,
)
from tablerings.rings.makers import (
    full_places, group_of, is_renaming, one_of_places, stairs_places, table_of_both, table_of_group, table_of_places,
    table_of_poly,
)
from tablerings.rings.products import fault_of, is_product_table, lines_of_products, one_of, table_at

MAX_SIZE = 9
MAX_SIDE = 3
MAX_MOVES = 3
MAX_MEMBERS = 100
# Where the lanes of a member end, as many of the last ones as it has.
SHIFTS = (192, 168, 144, 120, 96, 72, 48, 24, 0)
LEAST_TABLE = (((1,),),)


class Ring:
    """A ring, told by its prime and the products of its base members.

    What is found of a ring by long ways is kept in `found`, so that it is found once; this changes no answer.
    """

    def __init__(self, prime, table):
        check_prime(prime)
        check_product_table(prime, table)
        if fault_of(prime, table) is not None:
            raise InvalidRing("products do not group, or there is no one")
        self._prime = prime
        self._table = table
        self._one = one_of(prime, table)
        self._lines = lines_of_products(table)
        self.found = {}

    @property
    def prime(self):
        """The prime."""
        return self._prime

    @property
    def size(self):
        """The number of the base members."""
        return len(self._table)

    @property
    def table(self):
        """The products of base members."""
        return self._table

    @property
    def one(self):
        """The one."""
        return self._one

    @property
    def many(self):
        """The number of the members."""
        return powered(self._prime, len(self._table))

    def added(self, one, other):
        """The sum of two members."""
        check_member(self, one)
        check_member(self, other)
        return row_sum(self._prime, one, other)

    def product(self, one, other):
        """The product of two members."""
        if not is_row(self._prime, len(self._table), one) or not is_row(self._prime, len(self._table), other):
            raise InvalidRow("no member of the ring")
        return self.bare_product(one, other)

    def bare_product(self, one, other):
        """The product of what is known to be two members."""
        total = 0
        for number, line in zip(one, self._lines):
            if number:
                part = 0
                for times, made in zip(other, line):
                    if times:
                        part += times * made
                total += number * part
        prime = self._prime
        return tuple([(total >> shift) % FULL_LANE % prime for shift in SHIFTS[-len(one):]])

    def times(self, number, member):
        """The sum of so many times a member."""
        if not is_short_integer(number):
            raise InvalidNumber(number)
        check_member(self, member)
        return row_times(self._prime, number, member)

    def power(self, member, number):
        """The product of so many times a member."""
        check_member(self, member)
        if not is_short_integer(number) or number < 0:
            raise InvalidNumber(number)
        return self.bare_power(member, number)

    def bare_power(self, member, number):
        """The product of so many times what is known to be a member."""
        power = self._one
        square = member
        rest = number
        while rest:
            if rest % 2 == 1:
                power = self.bare_product(power, square)
            rest = rest // 2
            # The last square would be of no use.
            if rest:
                square = self.bare_product(square, square)
        return power

    def ahead_lines(self, member):
        """The numbers of the products of a member and each base member behind it."""
        lanes = Lanes(self._prime, len(self._table))
        return [lanes.settled(summed(member, [line[at] for line in self._lines])) for at in range(len(member))]

    def is_unit(self, value):
        """Whether a value is a member and a unit."""
        if value not in self:
            return False
        found = Echelon(self._prime, len(self._table))
        for line in self.ahead_lines(value):
            if not found.take(line):
                return False
        return True

    def inverse(self, member):
        """The member with which the product of a member is the one on both sides."""
        check_member(self, member)
        rows = [unpacked(len(member), line) for line in self.ahead_lines(member)]
        found = solved(self._prime, rows, self._one)
        if found is None:
            raise Refused(("no unit",))
        return found

    @classmethod
    def full(cls, prime, side):
        """All tables with so many rows and columns."""
        check_prime(prime)
        check_from_to(side, 1, MAX_SIDE)
        places = full_places(side)
        return sound_ring(prime, table_of_places(places), one_of_places(places))

    @classmethod
    def stairs(cls, prime, side):
        """All tables with so many rows and columns that are 0 below the places with equal indices."""
        check_prime(prime)
        check_from_to(side, 1, MAX_SIDE)
        places = stairs_places(side)
        return sound_ring(prime, table_of_places(places), one_of_places(places))

    @classmethod
    def of_moves(cls, prime, moves):
        """The ring that has the group of the products of some renamings as its base members."""
        check_prime(prime)
        if not are_moves(moves):
            raise InvalidTable("no tuple of 1 to 3 renamings of one number of places")
        group = group_of(moves, MAX_SIZE)
        if len(group) > MAX_SIZE:
            raise TooMany(MAX_SIZE)
        # The renaming that moves nothing is the least one.
        return sound_ring(prime, table_of_group(group), unit_row(len(group), 0))

    @classmethod
    def of_poly(cls, prime, poly):
        """The polynomials modulo a monic one."""
        check_prime(prime)
        if not is_some_poly(prime, poly, MAX_SIZE) or len(poly) < 2 or poly[-1] != 1:
            raise InvalidPoly("no monic polynomial of a degree from 1 to 9")
        return sound_ring(prime, table_of_poly(prime, poly), unit_row(len(poly) - 1, 0))

    @classmethod
    def both(cls, one, other):
        """The pairs of a member of the one and a member of the other ring."""
        check_ring(one)
        check_ring(other)
        if one.prime != other.prime:
            raise InvalidOperation("the rings have unlike primes")
        if one.size + other.size > MAX_SIZE:
            raise TooMany(MAX_SIZE)
        return sound_ring(one.prime, table_of_both(one.table, other.table), one.one + other.one)

    def __contains__(self, value):
        return is_row(self._prime, len(self._table), value)

    def __eq__(self, value):
        return isinstance(value, Ring) and self._prime == value._prime and self._table == value._table

    def __str__(self):
        return f"ring of {len(self._table)} over {self._prime}"


def sound_ring(prime, table, one):
    """The ring of a table, which is known to be that of a ring with this one."""
    ring = Ring(prime, LEAST_TABLE)
    ring._table = table
    ring._one = one
    ring._lines = lines_of_products(table)
    return ring


def check_ring(ring):
    """Refuse what is no ring."""
    if not isinstance(ring, Ring):
        raise InvalidRing("no ring")


def check_member(ring, member):
    """Refuse what is no member of the ring."""
    if member not in ring:
        raise InvalidRow("no member of the ring")


def check_members(ring, members):
    """Refuse what is no tuple of members."""
    if not are_rows(ring.prime, ring.size, members, MAX_MEMBERS):
        raise InvalidRow("no tuple of at most 100 members")


def check_member_space(ring, space):
    """Refuse what is no space of members."""
    if not is_base(ring.prime, ring.size, space):
        raise InvalidSpace("no space of members of the ring")


def check_product_table(prime, table):
    """Refuse what tells no products of base members."""
    if not is_product_table(prime, table, MAX_SIZE):
        raise InvalidTable("no table of products of 1 to 9 base members")


def are_moves(value):
    """Whether a value is a tuple of 1 to 3 renamings of one number of places."""
    if not isinstance(value, tuple) or not 1 <= len(value) <= MAX_MOVES:
        return False
    if not all([isinstance(move, tuple) and is_from_to(len(move), 1, MAX_SIZE) for move in value]):
        return False
    if not all([is_integer(place) for move in value for place in move]):
        return False
    return all([is_renaming(move, len(value[0])) for move in value])


def ring_fault(prime, table):
    """What bars a table from being that of a ring, or None."""
    check_prime(prime)
    check_product_table(prime, table)
    return fault_of(prime, table)


def opposite(ring):
    """The ring with all products the other way round."""
    check_ring(ring)
    table = ring.table
    return sound_ring(ring.prime, tuple([tuple([rows[at] for rows in table]) for at in range(ring.size)]), ring.one)


def rebased(ring, table):
    """The same ring with the rows of a table as its base members."""
    check_ring(ring)
    prime = ring.prime
    if not is_square(prime, ring.size, table):
        raise InvalidTable("no table of as many rows as the ring has base members")
    undone = undone_rows(prime, table)
    if undone is None:
        raise Refused(("singular",))
    products = [[ring.bare_product(one, other) for other in table] for one in table]
    made = tuple([rows_followed(prime, rows, undone) for rows in products])
    return sound_ring(prime, made, combined(prime, ring.size, ring.one, undone))


def subring_made(ring, members):
    """The least subring that has some members."""
    check_ring(ring)
    check_members(ring, members)
    found = ()
    grown = reduced(ring.prime, (ring.one,) + members)
    while len(grown) > len(found):
        found = grown
        products = tuple([ring.bare_product(one, other) for one in found for other in found])
        grown = reduced(ring.prime, found + products)
    return found


def is_subring(ring, value):
    """Whether a value is a space of members that is a subring."""
    check_ring(ring)
    if not is_base(ring.prime, ring.size, value) or not is_within(ring.prime, value, (ring.one,)):
        return False
    return is_within(ring.prime, value, [ring.bare_product(one, other) for one in value for other in value])


def ring_of_subring(ring, space):
    """The ring by itself whose base members are the rows of a subring."""
    check_ring(ring)
    check_member_space(ring, space)
    if not is_subring(ring, space):
        raise Refused(("no subring",))
    leads = leads_of(space)
    return sound_ring(ring.prime, table_at(ring, space, leads), at_places(ring.one, leads))
