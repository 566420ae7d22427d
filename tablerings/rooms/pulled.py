"""Pulled rooms, lift numbers, and the joins of two rooms."""

from tablerings.base.checks import check_from_to, is_row
from tablerings.base.lanes import LANE, Echelon, Lanes, joined
from tablerings.base.lines import flat, kernel_of, zero_row
from tablerings.errors import InvalidRow, TooMany
from tablerings.rooms.acting import tables_within
from tablerings.rooms.covers import corner_rows, cover_of, head_counts
from tablerings.rooms.free import check_free_size, sum_of_free
from tablerings.rooms.homs import map_rows
from tablerings.rooms.likeness import alike_of_all
from tablerings.rooms.maps import check_map_sizes
from tablerings.rooms.rooms import MAX_ROOM, check_one_ring, check_room, check_rooms, sound_room, unlike_product

MAX_PULLED = 6
MAX_STEPS = 8
MAX_JOINED = 150
MAX_TOLD = 4
MAX_LIFTED = 3


def made_pulled(room):
    """What a cover leads to 0, as a room by itself."""
    whole = sum_of_free(room.ring, head_counts(room))
    return sound_room(room.ring, tables_within(whole, cover_of(room).gone))


def pulled_of(room):
    """The pulled room of a room, found once; refuse a room with too great a free sum."""
    check_free_size(room.ring, head_counts(room))
    if "pulled" not in room.found:
        room.found["pulled"] = made_pulled(room)
    return room.found["pulled"]


def pulled_row(room, steps):
    """The rooms that come by pulling a room time after time, itself ahead."""
    rooms = [room]
    for _ in range(steps):
        rooms.append(pulled_of(rooms[-1]))
    return rooms


def pulled(room):
    """A pulled room."""
    check_room(room)
    return pulled_of(room)


def pulled_numbers(room, steps):
    """The head numbers of the rooms that come by pulling a room so many times."""
    check_room(room)
    check_from_to(steps, 0, MAX_TOLD)
    return tuple([head_counts(some) for some in pulled_row(room, steps)])


def pulled_length(room):
    """Whether the rooms that come by pulling end, come again, or go beyond what is looked at."""
    check_room(room)
    rooms = [room]
    while True:
        last, step = rooms[-1], len(rooms) - 1
        if last.size == 0:
            return ("ends", step)
        if last.size > MAX_PULLED:
            return ("beyond", step)
        for at, some in enumerate(rooms[:-1]):
            if alike_of_all(some, last) is not None:
                return ("again", at, step - at)
        if step == MAX_STEPS:
            return ("beyond", step)
        rooms.append(pulled_of(last))


def free_map_number(room, further):
    """The dimension of the maps of the free sum of the head numbers of a room to another room."""
    return sum([number * len(base) for number, base in zip(head_counts(room), corner_rows(further))])


def lift_number(room, further, step):
    """The lift number of two rooms at a step."""
    check_room(room)
    check_room(further)
    check_from_to(step, 0, MAX_LIFTED)
    check_one_ring(room, further)
    rooms = pulled_row(room, step)[-2:]
    for some in rooms[::-1]:
        check_map_sizes(some, further)
    number = len(map_rows(rooms[-1], further))
    if step:
        number = number - free_map_number(rooms[0], further) + len(map_rows(rooms[0], further))
    return number


def check_joined(room, further):
    """Refuse two rooms with too wide rows of joins."""
    if room.ring.size * room.size * further.size > MAX_JOINED:
        raise TooMany(MAX_JOINED)


def check_join_rooms(room, further):
    """Refuse two rooms of which joins are not told."""
    check_rooms(room, further)
    check_joined(room, further)


def columns_of(room, width):
    """For each base member and each place the number of the column of its table, one lane of so many for each row."""
    places = range(room.size)
    return [[joined(width, [row[at] for row in table]) for at in places] for table in room.tables]


def changed_blocks(room, further, columns, row, place):
    """What comes of the table with 1 at one place: followed by each table of the second room, and less what follows.

    The columns are those of the first room with as many lanes for each row as the second room has base vectors.
    """
    ahead = (room.size - 1 - row) * further.size * LANE
    behind = (further.size - 1 - place) * LANE
    others = [lines[place] << ahead for lines in further.lines]
    own = [lines[row] << behind for lines in columns]
    return others, own


def join_space(room, further):
    """The space of all joins of two rooms."""
    check_join_rooms(room, further)
    ring, width = room.ring, room.size * further.size
    places = range(ring.size)
    lanes = Lanes(ring.prime, ring.size * ring.size * width)
    columns = columns_of(room, further.size)
    numbers = []
    for last in places:
        # The table at the last base member stands in the products with it, on both sides, and in those that have it.
        signs = [[-ring.table[one][other][last] % ring.prime for other in places] for one in places]
        for at in range(width):
            others, own = changed_blocks(room, further, columns, at // further.size, at % further.size)
            blocks = [[sign << (width - 1 - at) * LANE for sign in line] for line in signs]
            for one in places:
                blocks[one][last] = blocks[one][last] + others[one]
                blocks[last][one] = blocks[last][one] + own[one]
            numbers.append(lanes.settled(joined(width, flat(blocks))))
    return kernel_of(ring.prime, ring.size * ring.size * width, numbers)


def plain_joins(room, further):
    """The space of all plain joins of two rooms."""
    check_join_rooms(room, further)
    prime, width = room.ring.prime, room.size * further.size
    found = Echelon(prime, room.ring.size * width)
    columns = columns_of(room, further.size)
    for at in range(width):
        others, own = changed_blocks(room, further, columns, at // further.size, at % further.size)
        blocks = [ahead + (prime - 1) * behind for ahead, behind in zip(others, own)]
        found.take(found.lanes.settled(joined(width, blocks)))
    return found.base(room.ring.size * width)


def joined_tables(room, further, join):
    """The tables of the pairs of vectors of two rooms by a join."""
    width, nothing = further.size, zero_row(room.size)
    tables = []
    for low, high in zip(room.tables, further.tables):
        start = len(tables) * room.size * width
        rows = [row + join[start + at * width:start + (at + 1) * width] for at, row in enumerate(low)]
        tables.append(tuple(rows) + tuple([nothing + row for row in high]))
    return tuple(tables)


def joined_room(room, further, join):
    """The room of the pairs of vectors of two rooms by a join."""
    check_rooms(room, further)
    ring = room.ring
    if not is_row(ring.prime, ring.size * room.size * further.size, join):
        raise InvalidRow("no row of the width of joins")
    tables = joined_tables(room, further, join)
    if unlike_product(ring, tables) is not None:
        raise InvalidRow("no join")
    check_joined(room, further)
    if room.size + further.size > MAX_ROOM:
        raise TooMany(MAX_ROOM)
    return sound_room(ring, tables)
