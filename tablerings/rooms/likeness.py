"""Which unsplittable rooms are alike, and how often they stand in rooms. Nothing is checked here."""

from tablerings.base.lanes import Echelon, joined, packed
from tablerings.base.lines import combined, rows_followed, undone_rows
from tablerings.rooms.acting import empty_echelon
from tablerings.rooms.covers import least_counts
from tablerings.rooms.homs import map_tables, table_of_row
from tablerings.rooms.selves import part_rooms, split_of_room


def alike_table(part, other):
    """A map of an unsplittable room to another one that is one-to-one and leads to all vectors, or None."""
    if part.size != other.size or least_counts(part) != least_counts(other):
        return None
    # If there is such a map, the others are a space, so that some base map is none of them.
    for table in map_tables(part, other):
        if undone_rows(part.ring.prime, table) is not None:
            return table
    return None


def first_alike(part, pairs, free):
    """The first of some indices at which a room stands to which an unsplittable one is alike, and the map; or None."""
    for at in free:
        table = alike_table(part, pairs[at][1])
        if table is not None:
            return (at, table)
    return None


def alike_of_all(room, further):
    """A map of any room to another one that is one-to-one and leads to all vectors, or None."""
    prime, size = room.ring.prime, room.size
    if size != further.size or least_counts(room) != least_counts(further):
        return None
    if size == 0:
        return ()
    pairs = part_rooms(further)
    free = list(range(len(pairs)))
    sources, goals = [], []
    for space, part in part_rooms(room):
        told = first_alike(part, pairs, free)
        if told is None:
            return None
        free.remove(told[0])
        sources.extend(space)
        goals.extend([combined(prime, size, row, pairs[told[0]][0]) for row in told[1]])
    return rows_followed(prime, undone_rows(prime, sources), goals)


def counted_parts(room, further):
    """For each likeness of unsplittable rooms in two rooms one of them, and how often it stands in both."""
    lots = []
    for at, whole in enumerate((room, further)):
        for _, part in part_rooms(whole):
            known = [lot for lot in lots if alike_table(lot[0], part) is not None]
            if known:
                known[0][1 + at] = known[0][1 + at] + 1
            else:
                lots.append([part, 1 - at, at])
    return lots


def times_of(part, room):
    """How often an unsplittable room stands in a parting of a room."""
    split, size = split_of_room(part), part.size
    low = empty_echelon(part)
    for row in split.nil:
        low.take_all([packed(line) for line in table_of_row(size, size, row)])
    gone = low.reduced(size)
    # The self maps modulo the nil ones are a field, so what a map makes of one vector that no nil map leads to tells
    # whether it is nil; the unit vector at a place that is no lead is such a vector.
    vector = [at for at in range(size) if size - 1 - at not in gone][0]
    back = [[packed(line) for line in table] for table in map_tables(room, part)]
    found = Echelon(part.ring.prime, size * len(back))
    for row in {table[vector]: True for table in map_tables(part, room)}:
        found.take(joined(size, [low.cleared(gone, part.lanes.led(lines, row)) for lines in back]))
    return len(found.rows) // split.degree
