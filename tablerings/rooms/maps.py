"""Maps between rooms, the parts of rooms, and whether rooms are alike."""

from tablerings.base.checks import are_rows, is_base, is_integer
from tablerings.base.lanes import packed, unpacked
from tablerings.base.lines import at_places, flat, leads_of, reduced, unit_rows
from tablerings.errors import Refused, TooMany
from tablerings.rings.rings import sound_ring
from tablerings.rooms.acting import is_closed, tables_within
from tablerings.rooms.homs import does_map, is_field_map, is_undone, map_rows, self_rows, table_of_row
from tablerings.rooms.likeness import alike_of_all, counted_parts, times_of
from tablerings.rooms.rooms import Room, check_room, check_rooms, is_subspace, sound_room
from tablerings.rooms.selves import lines_followed, part_rooms, split_of_room

MAX_MAP = 144
MAX_SELF = 40
MAX_SELF_RING = 9


def check_map_sizes(room, further):
    """Refuse two rooms with too great maps."""
    if room.size * further.size > MAX_MAP:
        raise TooMany(MAX_MAP)


def check_map_rooms(room, further):
    """Refuse two rooms between which there are no maps, or too great ones."""
    check_rooms(room, further)
    check_map_sizes(room, further)


def check_selves(room):
    """Refuse a room with too great or too many self maps."""
    check_map_sizes(room, room)
    if len(self_rows(room)) > MAX_SELF:
        raise TooMany(MAX_SELF)


def check_not_nothing(room):
    """Refuse a room of size 0."""
    if room.size == 0:
        raise Refused(("nothing",))


def maps(room, further):
    """The space of all maps of a room to another one, told row by row."""
    check_map_rooms(room, further)
    return map_rows(room, further)


def map_number(room, further):
    """The dimension of the space of all maps of a room to another one."""
    check_map_rooms(room, further)
    return len(map_rows(room, further))


def is_some_map(room, further, value):
    """Whether a value is a map of a room to another one of the same ring."""
    if not are_rows(room.ring.prime, further.size, value, room.size) or len(value) != room.size:
        return False
    return does_map(room, further, value)


def is_map(room, further, value):
    """Whether a value is a map of a room to another one."""
    check_map_rooms(room, further)
    return is_some_map(room, further, value)


def alike_map(room, further):
    """A map that is one-to-one and leads to all vectors, or None."""
    check_map_rooms(room, further)
    check_selves(room)
    check_selves(further)
    return alike_of_all(room, further)


def is_alike_map(room, further, value):
    """Whether a value is a map that is one-to-one and leads to all vectors."""
    check_map_rooms(room, further)
    if room.size != further.size or not is_some_map(room, further, value):
        return False
    return is_undone(room.ring.prime, value)


def split_paper(room):
    """A paper that a room is the sum of two subrooms, or that it is unsplittable."""
    check_room(room)
    check_not_nothing(room)
    check_selves(room)
    split = split_of_room(room)
    if split.halves is None:
        return ("whole", split.nil, split.maker)
    return ("parts", split.halves[0], split.halves[1])


def is_some_subroom(room, value):
    """Whether a value is a subroom."""
    return is_subspace(room, value) and is_closed(room, value)


def are_summands(room, value):
    """Whether a tuple has subrooms other than 0 such that each vector is in just one way a sum of vectors of them."""
    # So many spaces other than 0 could not be independent.
    if len(value) > room.size or not all([is_some_subroom(room, space) and space for space in value]):
        return False
    rows = [row for space in value for row in space]
    return len(rows) == room.size and len(reduced(room.ring.prime, rows)) == room.size


def is_unsplittable(room):
    """Whether a room that is not 0 is unsplittable."""
    return split_of_room(room).halves is None


def is_split_paper(room, value):
    """Whether a value is a paper that a room is the sum of two subrooms, or that it is unsplittable."""
    check_room(room)
    check_not_nothing(room)
    check_selves(room)
    if not isinstance(value, tuple) or len(value) != 3:
        return False
    if value[0] == "parts":
        return are_summands(room, value[1:])
    split = split_of_room(room)
    if value[0] != "whole" or split.halves is not None:
        return False
    if not is_base(room.ring.prime, room.size * room.size, value[1]) or value[1] != split.nil:
        return False
    return is_field_map(room, value[2], split.degree)


def parts(room):
    """A parting of a room."""
    check_room(room)
    check_selves(room)
    return tuple([space for space, _ in part_rooms(room)])


def are_parts(room, value):
    """Whether a value is a parting of a room."""
    check_room(room)
    check_selves(room)
    if not isinstance(value, tuple) or not are_summands(room, value):
        return False
    return all([is_unsplittable(sound_room(room.ring, tables_within(room, space))) for space in value])


def self_ring(room):
    """The ring of the self maps, in the base of the space of maps, products being maps one after the other."""
    check_room(room)
    check_not_nothing(room)
    check_map_sizes(room, room)
    base, size = self_rows(room), room.size
    if len(base) > MAX_SELF_RING:
        raise TooMany(MAX_SELF_RING)
    leads = leads_of(base)
    lines = [[packed(row) for row in table_of_row(size, size, some)] for some in base]

    def product_row(one, other):
        """The row of one map followed by another one, both told by the numbers of their rows."""
        made = lines_followed(room.lanes, one, other)
        return at_places(flat([unpacked(size, number) for number in made]), leads)

    table = tuple([tuple([product_row(one, other) for other in lines]) for one in lines])
    return sound_ring(room.ring.prime, table, at_places(flat(unit_rows(size)), leads))


def times_in(part, room):
    """How often rooms alike to an unsplittable one stand in a parting of a room."""
    check_map_rooms(part, room)
    check_not_nothing(part)
    check_selves(part)
    if not is_unsplittable(part):
        raise Refused(("parts",))
    return times_of(part, room)


def check_unlike(room, further):
    """Refuse two rooms of which it is not told whether they are alike."""
    check_map_rooms(room, further)
    check_selves(room)
    check_selves(further)


def unlike_paper(room, further):
    """An unsplittable room that stands unequally often in two rooms, and how often in both; None for alike rooms."""
    check_unlike(room, further)
    for part, one, other in counted_parts(room, further):
        if one != other:
            return (part, one, other)
    return None


def is_unlike_paper(room, further, value):
    """Whether a value is an unsplittable room that stands unequally often in two rooms, with both numbers."""
    check_unlike(room, further)
    if not isinstance(value, tuple) or len(value) != 3 or not isinstance(value[0], Room):
        return False
    part, one, other = value
    if not is_integer(one) or not is_integer(other) or one == other or part.ring != room.ring:
        return False
    if part.size == 0 or part.size * part.size > MAX_MAP or len(self_rows(part)) > MAX_SELF:
        return False
    return is_unsplittable(part) and times_of(part, room) == one and times_of(part, further) == other
