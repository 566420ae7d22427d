"""Forms of a ring, even forms, papers that there is no form, and the turns of forms."""

from tablerings.base.checks import is_integer, is_row
from tablerings.base.counting import powered
from tablerings.base.lines import (
    combined, kernel_rows, reduced, row_product, rows_followed, rows_turned, undone_rows, unit_rows,
)
from tablerings.errors import InvalidOperation, InvalidRow, Refused, TooMany
from tablerings.rings.corners import link, sum_of_all
from tablerings.rings.frames import central_sums, frame_of, nil_of
from tablerings.rings.ideals import commutators
from tablerings.rings.radical import socle
from tablerings.rings.rings import check_member, check_ring
from tablerings.rooms.covers import head_counts, least_counts, tops_of
from tablerings.rooms.least import least_of
from tablerings.rooms.rooms import Room, sound_room, subroom

MAX_TRIED = 5000


def check_row_of_values(ring, form):
    """Refuse what is no row of so many residues as the ring has base members."""
    if not is_row(ring.prime, ring.size, form):
        raise InvalidRow("no row of as many residues as the ring has base members")


def value_table(ring, form):
    """The table of the values at the products of base members."""
    return tuple([tuple([row_product(ring.prime, form, row) for row in rows]) for rows in ring.table])


def form_value(ring, form, member):
    """The value of a row at a member."""
    check_ring(ring)
    check_row_of_values(ring, form)
    check_member(ring, member)
    return row_product(ring.prime, form, member)


def form_table(ring, form):
    """The form table of a row."""
    check_ring(ring)
    check_row_of_values(ring, form)
    return value_table(ring, form)


def is_some_form(ring, value):
    """Whether a value is a form of what is known to be a ring."""
    return is_row(ring.prime, ring.size, value) and undone_rows(ring.prime, value_table(ring, value)) is not None


def is_form(ring, value):
    """Whether a value is a form."""
    check_ring(ring)
    return is_some_form(ring, value)


def room_of_rows(ring):
    """The room of all rows, a member a leading a row with the values f(x) to that with the values f(x a)."""
    places = range(ring.size)
    return sound_room(ring, tuple([rows_turned([rows[at] for rows in ring.table]) for at in places]))


def form_found(ring):
    """A form, or None."""
    frame, whole = frame_of(ring), room_of_rows(ring)
    # A row is a form exactly if it makes this room. Some row does so exactly if each least room stands in the head as
    # often as in that of the ring by itself; then it is the sum of one row for each idempotent of a parting.
    if list(head_counts(whole)) != [len(lot) for lot in frame.lots]:
        return None
    pieces = []
    for at, lot in enumerate(frame.lots):
        tops = [vector for place, vector in tops_of(whole) if place == at]
        for part, vector in zip(lot, tops):
            pieces.append(whole.led_by(link(ring, nil_of(ring), lot[0], part)[1], vector))
    return sum_of_all(ring, pieces)


def form_of(ring):
    """A form, or None if there is none."""
    check_ring(ring)
    return form_found(ring)


def even_rows(ring):
    """The space of the rows f with f(x y) equal to f(y x) for all members x and y."""
    base = commutators(ring)
    return kernel_rows(ring.prime, rows_turned(base)) if base else unit_rows(ring.size)


def is_same_both_ways(table):
    """Whether a table has the same rows as columns."""
    return rows_turned(table) == table


def even_form(ring):
    """An even form, or None if there is none."""
    check_ring(ring)
    rows = even_rows(ring)
    if powered(ring.prime, len(rows)) > MAX_TRIED:
        raise TooMany(MAX_TRIED)
    pieces = []
    for one in central_sums(ring):
        ahead = [ring.bare_product(one, unit) for unit in unit_rows(ring.size)]
        parts = reduced(ring.prime, [tuple([row_product(ring.prime, row, member) for member in ahead]) for row in rows])
        # On a block with an even form the rows that are none are a space, so some base row is one, if there is any.
        ranks = [len(reduced(ring.prime, value_table(ring, part))) for part in parts]
        pieces.extend([part for part, rank in zip(parts, ranks) if rank == max(ranks)][:1])
    found = sum_of_all(ring, pieces)
    return found if is_some_form(ring, found) else None


def is_even_form(ring, value):
    """Whether a value is an even form."""
    check_ring(ring)
    return is_some_form(ring, value) and is_same_both_ways(value_table(ring, value))


def socle_and_head(ring):
    """How often each least room stands in the socle of the ring by itself, and in its head."""
    return least_counts(subroom(Room.own(ring), socle(ring))), [len(lot) for lot in frame_of(ring).lots]


def no_form_paper(ring):
    """A least room and the unlike numbers how often it stands in the socle and in the head; None if there is a form."""
    check_ring(ring)
    low, high = socle_and_head(ring)
    for room, one, other in zip(least_of(ring), low, high):
        if one != other:
            return (room, one, other)
    return None


def is_no_form_paper(ring, value):
    """Whether a value is a least room and the unlike numbers how often it stands in the socle and in the head."""
    check_ring(ring)
    if not isinstance(value, tuple) or len(value) != 3 or not isinstance(value[0], Room) or value[0].ring != ring:
        return False
    room, one, other = value
    if not is_integer(one) or not is_integer(other) or one == other or sum(least_counts(room)) != 1:
        return False
    at, (low, high) = least_counts(room).index(1), socle_and_head(ring)
    return (one, other) == (low[at], high[at])


def check_form(ring, form):
    """Refuse what is no form."""
    if not is_some_form(ring, form):
        raise InvalidOperation("no form of the ring")


def turn_of(ring, form):
    """The turn of what is known to be a form."""
    table = value_table(ring, form)
    return rows_followed(ring.prime, table, undone_rows(ring.prime, rows_turned(table)))


def turn(ring, form):
    """The turn of a form."""
    check_ring(ring)
    check_form(ring, form)
    return turn_of(ring, form)


def turn_by(ring, form, unit):
    """The form that has at each member the value at its product with a unit, and its turn."""
    check_ring(ring)
    check_form(ring, form)
    check_member(ring, unit)
    if not ring.is_unit(unit):
        raise Refused(("no unit",))
    moved = combined(ring.prime, ring.size, unit, rows_turned(value_table(ring, form)))
    return (moved, turn_of(ring, moved))
