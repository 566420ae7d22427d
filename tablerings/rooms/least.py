"""Least rooms, of which least rooms a room is built, and its layers."""

from tablerings.base.checks import is_row
from tablerings.base.lanes import packed, unpacked
from tablerings.base.lines import flat, kernel_of, kernel_rows, reduced, row_less, rows_turned, unit_rows
from tablerings.base.splitting import first_told, order_poly
from tablerings.errors import Refused
from tablerings.rings.frames import frame_of
from tablerings.rings.rings import check_ring
from tablerings.rooms.acting import falling_bases, is_closed, member_lines, spun
from tablerings.rooms.covers import arrow_lines, corner_rows, least_counts, nil_echelon
from tablerings.rooms.homs import is_field_map, self_rows, table_of_row
from tablerings.rooms.rooms import Room, check_room, is_subspace, sound_room, turned_room


def member_rows(room, member):
    """The rows of the table by which a member leads vectors, as rows."""
    return [unpacked(room.size, line) for line in member_lines(room, member)]


def field_map(room):
    """A self map of a least room whose powers are, added up, all self maps."""
    rows, size = self_rows(room), room.size

    def told(row):
        """The table that a row tells, if it makes all of the field."""
        table = table_of_row(size, size, row)
        poly = order_poly(room.ring.prime, [packed(line) for line in table], unit_rows(size)[0])
        return table if len(poly) == len(rows) + 1 else None

    # The self maps are a field, so some base map or the sum of two will do.
    return first_told(room.ring.prime, size * size, rows, told, 1)


def least_paper(room, at):
    """The paper that a least room of a likeness is least."""
    ring, prime = room.ring, room.ring.prime
    head = frame_of(ring).lots[at][0]
    # What the one less an idempotent leads to 0 is what the idempotent leads to itself, in the turned room, too.
    turned = reduced(prime, rows_turned(member_rows(room, head)))
    return ("least", row_less(prime, ring.one, head), corner_rows(room)[at][0], turned[0], field_map(room))


def room_paper(room):
    """A paper that a room is least, or a subroom other than 0 and the whole."""
    check_room(room)
    if room.size == 0:
        raise Refused(("nothing",))
    low = nil_echelon(room).base(room.size)
    if low:
        return ("subroom", low)
    at = [index for index, base in enumerate(corner_rows(room)) if base][0]
    # Where J makes nothing, each vector of a corner makes a least room.
    made = spun(room, corner_rows(room)[at][:1]).base(room.size)
    return ("subroom", made) if len(made) < room.size else least_paper(room, at)


def is_making(room, lines, value):
    """Whether a value is a vector that a table leads to 0 and that makes the room."""
    if not is_row(room.ring.prime, room.size, value) or room.lanes.led(lines, value):
        return False
    return len(spun(room, (value,)).rows) == room.size


def is_least_paper(room, member, ahead, behind, table):
    """Whether a member, a vector, one of the turned room and a table tell that a room is least."""
    if room.size == 0 or member not in room.ring:
        return False
    lines, turned = member_lines(room, member), turned_room(room)
    if not is_making(room, lines, ahead) or not is_making(turned, member_lines(turned, member), behind):
        return False
    return is_field_map(room, table, len(kernel_of(room.ring.prime, room.size, lines)))


def is_room_paper(room, value):
    """Whether a value is a paper that a room is least, or that it has a subroom other than 0 and the whole."""
    check_room(room)
    if not isinstance(value, tuple):
        return False
    if len(value) == 5 and value[0] == "least":
        return is_least_paper(room, value[1], value[2], value[3], value[4])
    if len(value) != 2 or value[0] != "subroom" or not is_subspace(room, value[1]):
        return False
    return 0 < len(value[1]) < room.size and is_closed(room, value[1])


def least_rooms(ring):
    """One least room of each likeness."""
    check_ring(ring)
    return least_of(ring)


def least_of(ring):
    """One least room of each likeness, found once."""
    if "least" not in ring.found:
        ring.found["least"] = tuple([sound_room(ring, tables) for tables in frame_of(ring).least])
    return ring.found["least"]


def are_least_rooms(ring, value):
    """Whether a value is a tuple of one least room of each likeness."""
    check_ring(ring)
    count = len(frame_of(ring).lots)
    if not isinstance(value, tuple) or len(value) != count:
        return False
    if not all([isinstance(room, Room) and room.ring == ring for room in value]):
        return False
    # A room is least exactly if a row of its subrooms has one least room.
    return sorted([least_counts(room) for room in value]) == sorted(unit_rows(count))


def list_of(room):
    """How often each least room is among the quotients of a row of subrooms."""
    check_room(room)
    return least_counts(room)


def falling_sizes(room, tables):
    """By how much the spaces fall that some tables, told by their lines, make of all vectors, time after time."""
    sizes = [len(base) for base in falling_bases(room, tables)] + [0]
    return tuple([one - other for one, other in zip(sizes, sizes[1:])])


def layers(room):
    """The layers of a room."""
    check_room(room)
    return falling_sizes(room, arrow_lines(room))


def socle_layers(room):
    """The socle layers of a room."""
    check_room(room)
    if room.size == 0:
        return ()
    # The vectors that J leads to 0 are those whose products with all that J makes in the turned room are 0.
    tables = [rows_turned(member_rows(room, arrow)) for arrow in frame_of(room.ring).arrows]
    return falling_sizes(room, [[packed(row) for row in rows] for rows in tables])


def radical_by_rooms(ring):
    """The space of the members that lead all vectors of all least rooms to 0."""
    check_ring(ring)
    rows = [flat([flat(room.tables[at]) for room in least_of(ring)]) for at in range(ring.size)]
    return kernel_rows(ring.prime, rows)
