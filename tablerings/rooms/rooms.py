"""Rooms: spaces of rows on which the members of a ring work as tables."""

from tablerings.base.checks import are_rows, is_base, is_row, is_square
from tablerings.base.lanes import Lanes, joined, packed, summed, unpacked
from tablerings.base.lines import (
    free_places, kernel_of, reduced, rows_turned, undone_rows, unit_rows, zero_row,
)
from tablerings.errors import InvalidOperation, InvalidRoom, InvalidRow, InvalidSpace, InvalidTable, Refused, TooMany
from tablerings.rings.rings import check_ring, opposite
from tablerings.rooms.acting import is_closed, member_lines, orbit, spun, tables_beyond, tables_within

MAX_ROOM = 40
MAX_VECTORS = 100


class Room:
    """A room, told by its ring and the table of each base member.

    What is found of a room by long ways is kept in `found`, so that it is found once; this changes no answer.
    """

    def __init__(self, ring, tables):
        check_ring(ring)
        if not are_square_tables(ring, tables):
            raise InvalidRoom("no square tables of one size from 0 to 40, one for each base member")
        self._ring = ring
        self._tables = tables
        self.lines = lines_of_tables(tables)
        self.lanes = Lanes(ring.prime, len(tables[0]))
        self.found = {}
        pair = unlike_product(ring, tables)
        if pair is not None:
            raise Refused(("product", pair[0], pair[1]))
        if member_lines(self, ring.one) != [packed(row) for row in unit_rows(len(tables[0]))]:
            raise Refused(("one",))

    @property
    def ring(self):
        """The ring."""
        return self._ring

    @property
    def size(self):
        """The number of the base vectors."""
        return len(self._tables[0])

    @property
    def tables(self):
        """The tables of the base members."""
        return self._tables

    def led_by(self, member, vector):
        """The vector to which a member leads a vector."""
        size = len(self._tables[0])
        if member not in self._ring or not is_row(self._ring.prime, size, vector):
            raise InvalidRow("no member of the ring, or no vector of the room")
        return unpacked(size, self.lanes.settled(summed(member, orbit(self, vector))))

    @classmethod
    def own(cls, ring):
        """The ring itself: its vectors are its members."""
        check_ring(ring)
        return sound_room(ring, ring.table)

    @classmethod
    def nothing(cls, ring):
        """The room without base vectors."""
        check_ring(ring)
        return cls(ring, ((),) * ring.size)

    @classmethod
    def side_by_side(cls, room, further):
        """The room of the pairs of vectors of two rooms."""
        check_rooms(room, further)
        if room.size + further.size > MAX_ROOM:
            raise TooMany(MAX_ROOM)
        return sum_room(room.ring, (room, further))

    def __eq__(self, value):
        return isinstance(value, Room) and self._ring == value._ring and self._tables == value._tables

    def __str__(self):
        size, ring = len(self._tables[0]), self._ring
        return f"room of {size} vectors over a ring of size {ring.size} modulo {ring.prime}"


def lines_of_tables(tables):
    """The numbers of the rows of some tables."""
    return [[packed(row) for row in table] for table in tables]


def sound_room(ring, tables):
    """The room of tables that are known to be those of one."""
    room = Room(ring, ((),) * ring.size)
    room._tables = tables
    room.lines = lines_of_tables(tables)
    room.lanes = Lanes(ring.prime, len(tables[0]))
    return room


def sum_room(ring, rooms):
    """The room with some rooms side by side."""
    width = sum([room.size for room in rooms])
    tables = [[] for _ in range(ring.size)]
    start = 0
    for room in rooms:
        ahead, behind = zero_row(start), zero_row(width - start - room.size)
        start = start + room.size
        for table, rows in zip(tables, room.tables):
            table.extend([ahead + row + behind for row in rows])
    return sound_room(ring, tuple([tuple(table) for table in tables]))


def are_square_tables(ring, value):
    """Whether a value has a square table for each base member, all of one size from 0 to 40."""
    if not isinstance(value, tuple) or len(value) != ring.size:
        return False
    if not isinstance(value[0], tuple) or len(value[0]) > MAX_ROOM:
        return False
    return all([is_square(ring.prime, len(value[0]), table) for table in value])


def unlike_product(ring, tables):
    """The first pair of base members whose product is not what their tables tell, or None."""
    size = len(tables[0])
    if size == 0:
        return None
    lanes, lines = Lanes(ring.prime, size), lines_of_tables(tables)
    for one in range(ring.size):
        for other in range(ring.size):
            numbers = ring.table[one][other]
            for at, row in enumerate(tables[other]):
                if lanes.led(lines[one], row) != lanes.led([some[at] for some in lines], numbers):
                    return (one, other)
    return None


def check_room(room):
    """Refuse what is no room."""
    if not isinstance(room, Room):
        raise InvalidRoom("no room")


def check_rooms(room, further):
    """Refuse what are no two rooms of one ring."""
    check_room(room)
    check_room(further)
    check_one_ring(room, further)


def check_one_ring(room, further):
    """Refuse two rooms of unequal rings."""
    if room.ring != further.ring:
        raise InvalidOperation("the rooms have unequal rings")


def is_subspace(room, value):
    """Whether a value is a space of vectors of the room."""
    return is_base(room.ring.prime, room.size, value)


def check_subroom(room, space):
    """Refuse what is no subroom."""
    if not is_subspace(room, space) or not is_closed(room, space):
        raise InvalidSpace("no subroom")


def subroom_made(room, vectors):
    """The least subroom that has some vectors."""
    check_room(room)
    if not are_rows(room.ring.prime, room.size, vectors, MAX_VECTORS):
        raise InvalidRow("no tuple of at most 100 vectors")
    return spun(room, reduced(room.ring.prime, vectors)).base(room.size)


def is_subroom(room, value):
    """Whether a value is a subroom."""
    check_room(room)
    return is_subspace(room, value) and is_closed(room, value)


def subroom(room, space):
    """A subroom as a room by itself."""
    check_room(room)
    check_subroom(room, space)
    return sound_room(room.ring, tables_within(room, space))


def quotient_room(room, space):
    """The quotient by a subroom."""
    check_room(room)
    check_subroom(room, space)
    return sound_room(room.ring, tables_beyond(room, space, free_places(room.size, space)))


def turned_room(room):
    """The room over the opposite ring whose tables have rows and columns exchanged."""
    check_room(room)
    if room.size == 0:
        return sound_room(opposite(room.ring), room.tables)
    return sound_room(opposite(room.ring), tuple([rows_turned(table) for table in room.tables]))


def rebased_room(room, table):
    """The same room told by other base vectors."""
    check_room(room)
    prime, size = room.ring.prime, room.size
    undone = undone_rows(prime, table) if is_square(prime, size, table) else None
    if undone is None:
        raise InvalidTable("no table of as many rows as the room has base vectors that is undone by a table")
    back = [packed(row) for row in undone]
    led = [[unpacked(size, number) for number in orbit(room, row)] for row in table]
    places = range(len(room.lines))
    return sound_room(room.ring, tuple([
        tuple([unpacked(size, room.lanes.led(back, rows[at])) for rows in led]) for at in places]))


def room_killers(room):
    """The space of all members that lead each vector to 0."""
    check_room(room)
    size = room.size
    return kernel_of(room.ring.prime, size * size, [joined(size, lines) for lines in room.lines])


def vector_killers(room, vector):
    """The space of all members that lead a vector to 0."""
    check_room(room)
    if not is_row(room.ring.prime, room.size, vector):
        raise InvalidRow("no vector of the room")
    return kernel_of(room.ring.prime, room.size, orbit(room, vector))
