"""What members of a ring make of vectors of a room. Nothing is checked here.

Rows are told by their numbers (lanes.py). A room has `lines`, for each base member the numbers of the rows of its
table, and `lanes`, which takes the lanes of vectors modulo the prime.
"""

from tablerings.base.lanes import Echelon, packed, summed, unpacked
from tablerings.base.lines import at_places, leads_of, unit_rows


def orbit(room, vector):
    """What each base member leads a vector to."""
    return [room.lanes.led(lines, vector) for lines in room.lines]


def member_lines(room, member):
    """The rows of the table by which a member leads vectors."""
    places = range(len(room.lines[0]))
    return [room.lanes.settled(summed(member, [lines[at] for lines in room.lines])) for at in places]


def empty_echelon(room):
    """An echelon to which vectors can be added."""
    return Echelon(room.lanes.modulus, room.lanes.width)


def spun(room, vectors):
    """The echelon of the least subroom that has some vectors."""
    found = empty_echelon(room)
    for vector in vectors:
        found.take_all(orbit(room, vector))
    return found


def falling_bases(room, tables):
    """The base of all vectors, that of what some tables, told by their lines, make of them, and so on, without ()."""
    bases, base = [], unit_rows(room.lanes.width)
    while base:
        bases.append(base)
        found = empty_echelon(room)
        for lines in tables:
            found.take_all([room.lanes.led(lines, row) for row in base])
        base = found.base(room.lanes.width)
    return bases


def is_closed(room, base):
    """Whether a space of vectors has all that base members lead its base to."""
    found = empty_echelon(room)
    found.take_all([packed(row) for row in base])
    for row in base:
        if any([found.rest(number) for number in orbit(room, row)]):
            return False
    return True


def tables_within(room, base):
    """The tables of a subroom as a room by itself."""
    leads, width = leads_of(base), room.lanes.width
    made = [[unpacked(width, number) for number in orbit(room, row)] for row in base]
    return tuple([tuple([at_places(rows[at], leads) for rows in made]) for at in range(len(room.lines))])


def tables_beyond(room, base, free):
    """The tables of the quotient by a subroom, the places that are no leads of it being told."""
    found, width = empty_echelon(room), room.lanes.width
    found.take_all([packed(row) for row in base])
    tables = []
    for lines in room.lines:
        rest = [unpacked(width, found.cleared(found.rows, lines[at])) for at in free]
        tables.append(tuple([at_places(row, free) for row in rest]))
    return tuple(tables)
