"""Idempotents of a ring, how the one is parted into least ones, and which of them are like."""

from tablerings.base.checks import is_integer
from tablerings.base.lines import is_within, row_less, row_times, zero_row
from tablerings.errors import InvalidOperation, Refused
from tablerings.rings.corners import least_parts, links, sum_of_all
from tablerings.rings.frames import central_sums, frame_of, least_numbers, nil_of
from tablerings.rings.rings import check_member, check_ring


def is_square_of_itself(ring, member):
    """Whether a member is an idempotent."""
    return ring.bare_product(member, member) == member


def is_idempotent(ring, value):
    """Whether a value is an idempotent."""
    check_ring(ring)
    return value in ring and is_square_of_itself(ring, value)


def is_least_idempotent(ring, value):
    """Whether a value is a least idempotent."""
    check_ring(ring)
    return value in ring and is_square_of_itself(ring, value) and sum(least_numbers(ring, value)) == 1


def raised(ring, member):
    """Three squares less two cubes of a member."""
    square = ring.bare_product(member, member)
    cube = ring.bare_product(square, member)
    return row_less(ring.prime, row_times(ring.prime, 3, square), row_times(ring.prime, 2, cube))


def led_up(ring, member):
    """An idempotent that is a member less a member of J."""
    check_ring(ring)
    check_member(ring, member)
    gap = row_less(ring.prime, ring.bare_product(member, member), member)
    if not is_within(ring.prime, nil_of(ring), (gap,)):
        raise Refused(("open",))
    found = member
    while not is_square_of_itself(ring, found):
        found = raised(ring, found)
    return found


def parting(ring):
    """Least idempotents that add up to the one, all their products being 0."""
    check_ring(ring)
    return frame_of(ring).parting


def is_parting(ring, value):
    """Whether a value is a parting."""
    check_ring(ring)
    # All partings are of one length, and idempotents with these products and sum that are as many are least.
    if not isinstance(value, tuple) or len(value) != len(frame_of(ring).parting):
        return False
    if not all([member in ring for member in value]) or sum_of_all(ring, value) != ring.one:
        return False
    nothing = zero_row(ring.size)
    for at, one in enumerate(value):
        made = [ring.bare_product(one, other) for other in value]
        if made != [one if at == place else nothing for place in range(len(value))] or one == nothing:
            return False
    return True


def check_idempotents(ring, one, other):
    """Refuse two members of a ring, unless they are idempotents."""
    check_ring(ring)
    check_member(ring, one)
    check_member(ring, other)
    if not is_square_of_itself(ring, one) or not is_square_of_itself(ring, other):
        raise InvalidOperation("not both are idempotents")


def like_paper(ring, one, other):
    """Two members whose products are the one and the other idempotent, or None."""
    check_idempotents(ring, one, other)
    if least_numbers(ring, one) != least_numbers(ring, other):
        return None
    nil = nil_of(ring)
    found = links(ring, nil, least_parts(ring, nil, one), least_parts(ring, nil, other))
    return (sum_of_all(ring, [told[1] for told in found]), sum_of_all(ring, [told[2] for told in found]))


def is_like_paper(ring, one, other, value):
    """Whether a value is a pair of members whose products are the one and the other idempotent."""
    check_idempotents(ring, one, other)
    if not isinstance(value, tuple) or len(value) != 2 or value[0] not in ring or value[1] not in ring:
        return False
    return ring.bare_product(value[0], value[1]) == one and ring.bare_product(value[1], value[0]) == other


def check_partings(ring, one, other):
    """Refuse what are no two partings."""
    check_ring(ring)
    if not is_parting(ring, one) or not is_parting(ring, other):
        raise InvalidOperation("no parting")


def leading_unit(ring, one, other):
    """A unit and a renaming that lead the one parting to the other one."""
    check_partings(ring, one, other)
    found = links(ring, nil_of(ring), one, other)
    return (sum_of_all(ring, [told[1] for told in found]), tuple([told[0] for told in found]))


def is_leading_unit(ring, one, other, value):
    """Whether a value is a unit and a renaming that lead the one parting to the other one."""
    check_partings(ring, one, other)
    if not isinstance(value, tuple) or len(value) != 2 or not ring.is_unit(value[0]):
        return False
    unit, renaming = value
    if not isinstance(renaming, tuple) or not all([is_integer(at) for at in renaming]):
        return False
    if sorted(renaming) != list(range(len(one))):
        return False
    return all([ring.bare_product(one[i], unit) == ring.bare_product(unit, other[at]) for i, at in enumerate(renaming)])


def central_parting(ring):
    """The ascending idempotents other than 0 that commute with all members and are no sums of two such."""
    check_ring(ring)
    return central_sums(ring)
