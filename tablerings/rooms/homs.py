"""The maps of one room to another one of the same ring. Nothing is checked here."""

from tablerings.base.checks import is_square
from tablerings.base.lanes import Echelon, joined, packed, summed
from tablerings.base.lines import undone_rows, unit_rows, zero_row
from tablerings.base.polywork import is_prime_poly
from tablerings.base.splitting import order_poly, poly_led
from tablerings.rings.frames import frame_of
from tablerings.rooms.acting import orbit
from tablerings.rooms.covers import corner_rows, cover_of, free_images


def map_rows(room, further):
    """The base of the space of all maps, their tables told row by row."""
    cover, size, lanes = cover_of(room), further.size, further.lanes
    # A map hangs on where the vectors that make the room are led; all that the cover leads to 0 has to come to 0.
    # Behind what this comes to stands the table of the map, so the sums that are 0 ahead are the maps.
    told = cover.gone + cover.back
    found = Echelon(room.ring.prime, size * len(told))
    start = 0
    for at, _ in cover.tops:
        free = frame_of(room.ring).free[at]
        pieces = [row[start:start + len(free)] for row in told]
        start = start + len(free)
        for goal in corner_rows(further)[at]:
            images = free_images(further, free, goal)
            found.take(joined(size, [lanes.settled(summed(piece, images)) for piece in pieces]))
    return found.base(size * len(cover.back))


def table_of_row(count, width, row):
    """The table of so many rows of a width that is told row by row."""
    return tuple([row[at * width:(at + 1) * width] for at in range(count)])


def map_tables(room, further):
    """The tables of a base of all maps."""
    return [table_of_row(room.size, further.size, row) for row in map_rows(room, further)]


def does_map(room, further, table):
    """Whether a table of rows is a map."""
    lines = [packed(row) for row in table]
    for unit, row in enumerate(table):
        ahead = [further.lanes.led(lines, some[unit]) for some in room.tables]
        if ahead != orbit(further, row):
            return False
    return True


def self_rows(room):
    """The base of the space of the self maps, found once."""
    if "selves" not in room.found:
        room.found["selves"] = map_rows(room, room)
    return room.found["selves"]


def is_field_map(room, value, degree):
    """Whether a value is a self map whose least polynomial is irreducible and of a degree."""
    prime, size = room.ring.prime, room.size
    if not is_square(prime, size, value) or not does_map(room, room, value):
        return False
    lines, units = [packed(row) for row in value], unit_rows(size)
    poly = order_poly(prime, lines, units[0])
    if len(poly) != degree + 1 or not is_prime_poly(prime, poly):
        return False
    return all([poly_led(prime, poly, lines, unit) == zero_row(size) for unit in units])


def is_undone(prime, table):
    """Whether a square table is undone by a table."""
    return undone_rows(prime, table) is not None
