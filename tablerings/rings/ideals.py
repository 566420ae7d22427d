"""Ideals of a ring, quotients by them, and the members that commute with others or lead them to 0."""

from tablerings.base.checks import check_word, is_base
from tablerings.base.lines import (
    at_places, flat, free_places, is_within, kernel_rows, reduced, remainder, row_less, unit_rows,
)
from tablerings.errors import Refused
from tablerings.rings.rings import check_member, check_member_space, check_members, check_ring, sound_ring

SIDES = ("left", "right", "both")
ONE_SIDES = ("left", "right")


def product_rows(ring, ones, others):
    """All products of one of the first members and one of the second ones."""
    return [ring.bare_product(one, other) for one in ones for other in others]


def ideal_made(ring, members, *, side="both"):
    """The least ideal of a side that has some members."""
    check_ring(ring)
    check_members(ring, members)
    check_word(side, SIDES)
    prime = ring.prime
    units = unit_rows(ring.size)
    found = reduced(prime, members)
    if side != "right":
        found = reduced(prime, product_rows(ring, units, found))
    if side != "left":
        found = reduced(prime, product_rows(ring, found, units))
    return found


def is_ideal(ring, value, *, side="both"):
    """Whether a value is a space of members that is an ideal of the side."""
    check_ring(ring)
    check_word(side, SIDES)
    if not is_base(ring.prime, ring.size, value):
        return False
    units = unit_rows(ring.size)
    if side != "right" and not is_within(ring.prime, value, product_rows(ring, units, value)):
        return False
    return side == "left" or is_within(ring.prime, value, product_rows(ring, value, units))


def ideal_product(ring, one, other):
    """The space of all sums of products of a member of the one and a member of the other space."""
    check_ring(ring)
    check_member_space(ring, one)
    check_member_space(ring, other)
    return reduced(ring.prime, product_rows(ring, one, other))


def check_divided(ring, space):
    """Refuse a space of members by which the ring has no quotient."""
    if not is_ideal(ring, space):
        raise Refused(("ideal",))
    if len(space) == ring.size:
        raise Refused(("whole",))


def class_row(ring, space, member):
    """The row of the class of a member modulo an ideal."""
    return at_places(remainder(ring.prime, space, member), free_places(ring.size, space))


def quotient_ring(ring, space):
    """The quotient by an ideal of both sides other than the whole ring."""
    check_ring(ring)
    check_member_space(ring, space)
    check_divided(ring, space)
    units = unit_rows(ring.size)
    base = [units[at] for at in free_places(ring.size, space)]
    table = [tuple([class_row(ring, space, ring.bare_product(one, other)) for other in base]) for one in base]
    return sound_ring(ring.prime, tuple(table), class_row(ring, space, ring.one))


def quotient_row(ring, space, member):
    """The row of the class of a member in the quotient by an ideal."""
    check_ring(ring)
    check_member_space(ring, space)
    check_member(ring, member)
    check_divided(ring, space)
    return class_row(ring, space, member)


def unlike_products(ring, one, other):
    """The product of two members less that the other way round."""
    return row_less(ring.prime, ring.bare_product(one, other), ring.bare_product(other, one))


def commuting(ring, members):
    """The space of all members that commute with some members."""
    rows = [flat([unlike_products(ring, unit, member) for member in members]) for unit in unit_rows(ring.size)]
    return kernel_rows(ring.prime, rows)


def centre(ring):
    """The space of all members that commute with each member."""
    check_ring(ring)
    return commuting(ring, unit_rows(ring.size))


def centralizer(ring, members):
    """The space of all members that commute with each of some members."""
    check_ring(ring)
    check_members(ring, members)
    return commuting(ring, reduced(ring.prime, members))


def commutators(ring):
    """The space of all sums of products of two members less those the other way round."""
    check_ring(ring)
    units = unit_rows(ring.size)
    return reduced(ring.prime, [unlike_products(ring, one, other) for one in units for other in units])


def killers(ring, members, *, side="left"):
    """The space of all members whose products with each of some members, ahead or behind them, are 0."""
    check_ring(ring)
    check_members(ring, members)
    check_word(side, ONE_SIDES)
    base = reduced(ring.prime, members)
    units = unit_rows(ring.size)
    if side == "left":
        rows = [flat(product_rows(ring, (unit,), base)) for unit in units]
    else:
        rows = [flat(product_rows(ring, base, (unit,))) for unit in units]
    return kernel_rows(ring.prime, rows)
