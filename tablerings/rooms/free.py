"""Free rooms, the heads of rooms, covers, and the table of counts of a ring."""

from tablerings.base.checks import are_rows, is_short_integer
from tablerings.base.lanes import unpacked
from tablerings.base.lines import reduced
from tablerings.errors import InvalidNumber, TooMany
from tablerings.rings.frames import blocks_of, frame_of
from tablerings.rings.rings import check_ring
from tablerings.rooms.acting import tables_within
from tablerings.rooms.covers import cover_lines, free_size, head_counts, least_counts
from tablerings.rooms.homs import does_map
from tablerings.rooms.rooms import Room, check_room, sound_room, sum_room

MAX_COVER = 40


def free_of(ring):
    """One free room of each likeness, found once."""
    if "free" not in ring.found:
        own = Room.own(ring)
        ring.found["free"] = tuple([sound_room(ring, tables_within(own, base)) for base in frame_of(ring).free])
    return ring.found["free"]


def free_rooms(ring):
    """One free room of each likeness."""
    check_ring(ring)
    return free_of(ring)


def sum_of_free(ring, numbers):
    """The free sum of some numbers, which may be of any size."""
    return sum_room(ring, [room for room, number in zip(free_of(ring), numbers) for _ in range(number)])


def check_free_size(ring, numbers):
    """Refuse numbers the free sum of which has too many base vectors."""
    if free_size(ring, numbers) > MAX_COVER:
        raise TooMany(MAX_COVER)


def are_numbers(ring, value):
    """Whether a value is a tuple of an integer from 0 on for each least room."""
    if not isinstance(value, tuple) or len(value) != len(frame_of(ring).lots):
        return False
    return all([is_short_integer(number) and number >= 0 for number in value])


def free_sum(ring, numbers):
    """The room of so many copies of each free room side by side."""
    check_ring(ring)
    if not are_numbers(ring, numbers):
        raise InvalidNumber(numbers)
    check_free_size(ring, numbers)
    return sum_of_free(ring, numbers)


def head_numbers(room):
    """How often each least room stands in the list of the head."""
    check_room(room)
    return head_counts(room)


def cover(room):
    """The head numbers and the table of a map from their free sum onto the room."""
    check_room(room)
    numbers = head_counts(room)
    check_free_size(room.ring, numbers)
    return (numbers, tuple([unpacked(room.size, line) for line in cover_lines(room)]))


def is_cover(room, value):
    """Whether a value is a pair of the head numbers and the table of a map from their free sum onto the room."""
    check_room(room)
    numbers, prime = head_counts(room), room.ring.prime
    if not isinstance(value, tuple) or len(value) != 2 or not are_numbers(room.ring, value[0]) or value[0] != numbers:
        return False
    table, count = value[1], free_size(room.ring, numbers)
    if not are_rows(prime, room.size, table, count) or len(table) != count:
        return False
    return len(reduced(prime, table)) == room.size and does_map(sum_of_free(room.ring, numbers), room, table)


def cartan(ring):
    """The table of how often each least room stands in the list of each free room."""
    check_ring(ring)
    columns = [least_counts(room) for room in free_of(ring)]
    return tuple([tuple([column[at] for column in columns]) for at in range(len(columns))])


def blocks_of_rooms(ring):
    """The ascending lots of least rooms that hang together by links."""
    check_ring(ring)
    return blocks_of(ring)
