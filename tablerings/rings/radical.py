"""What comes to nothing: the greatest ideal of a ring some power of which is 0."""

from tablerings.base.checks import check_word, is_from_to, is_integer
from tablerings.base.lines import all_rows, all_sums, is_within, reduced, row_less
from tablerings.errors import TooMany
from tablerings.rings.frames import nil_of, trace_spaces_kept
from tablerings.rings.ideals import ONE_SIDES, ideal_made, ideal_product, killers
from tablerings.rings.rings import check_members, check_ring
from tablerings.rings.settled import has_power_zero, settler

MAX_TRIED = 5000
COUNTED = ("units", "nilpotent", "idempotent")


def check_tried(ring):
    """Refuse a ring of which not all members can be tried."""
    if ring.many > MAX_TRIED:
        raise TooMany(MAX_TRIED)


def trace_spaces(ring):
    """The spaces that are cut out by traces of powers by 1, the prime, and so on; the last one is J."""
    check_ring(ring)
    return trace_spaces_kept(ring)


def radical(ring):
    """The space J."""
    check_ring(ring)
    return nil_of(ring)


def all_less_are_units(ring, units, space):
    """Whether the one less each member of a space is a unit."""
    for row in all_sums(ring.prime, ring.size, space):
        if row_less(ring.prime, ring.one, row) not in units:
            return False
    return True


def radical_by_units(ring):
    """The space J, found from the units alone."""
    check_ring(ring)
    check_tried(ring)
    members = all_rows(ring.prime, ring.size)
    units = {member: True for member in members if ring.is_unit(member)}
    judged = {}
    found = []
    for member in members:
        # Members with the same products by all members ahead are judged once.
        made = ideal_made(ring, (member,), side="left")
        if made not in judged:
            judged[made] = all_less_are_units(ring, units, made)
        if judged[made]:
            found.append(member)
    return reduced(ring.prime, found)


def radical_sizes(ring):
    """The dimensions of J and of its powers, as long as they are above 0."""
    space = radical(ring)
    sizes = []
    power = space
    while power:
        sizes.append(len(power))
        power = ideal_product(ring, power, space)
    return tuple(sizes)


def socle(ring, *, side="left"):
    """The space of all members that are led to 0 by each member of J, ahead (left) or behind (right) of them."""
    check_ring(ring)
    check_word(side, ONE_SIDES)
    # What J leads to 0 standing on the left are killers on the right.
    return killers(ring, radical(ring), side="right" if side == "left" else "left")


def is_nilpotent(ring, value):
    """Whether a value is a member some power of which is 0."""
    check_ring(ring)
    return value in ring and has_power_zero(ring, value)


def counted(ring, what):
    """How many members are units, have a power 0, or are idempotents."""
    check_ring(ring)
    check_word(what, COUNTED)
    check_tried(ring)
    members = all_rows(ring.prime, ring.size)
    if what == "units":
        return len([member for member in members if ring.is_unit(member)])
    if what == "nilpotent":
        return len([member for member in members if has_power_zero(ring, member)])
    return len([member for member in members if ring.bare_product(member, member) == member])


def power_zero(ring, space):
    """The least number from 1 on such that the power of an ideal by it is 0, or None."""
    number = 1
    power = space
    while power:
        lower = ideal_product(ring, power, space)
        if lower == power:
            return None
        power = lower
        number = number + 1
    return number


def nil_paper(ring, members):
    """A paper that the ideal made by some members has a power 0, or that a member of them stays."""
    check_ring(ring)
    check_members(ring, members)
    nil = nil_of(ring)
    for at, member in enumerate(members):
        if not is_within(ring.prime, nil, (member,)):
            return ("stays", at, settler(ring, member))
    return ("power", power_zero(ring, ideal_made(ring, members)))


def is_staying(ring, members, at, by):
    """Whether the one less the product of a member and the one with an index is no unit."""
    if not is_from_to(at, 0, len(members) - 1) or by not in ring:
        return False
    return not ring.is_unit(row_less(ring.prime, ring.one, ring.bare_product(by, members[at])))


def is_nil_paper(ring, members, value):
    """Whether a value is a paper for some members."""
    check_ring(ring)
    check_members(ring, members)
    if not isinstance(value, tuple):
        return False
    if len(value) == 3 and value[0] == "stays":
        return is_staying(ring, members, value[1], value[2])
    if len(value) != 2 or value[0] != "power" or not is_integer(value[1]):
        return False
    return value[1] == power_zero(ring, ideal_made(ring, members))
