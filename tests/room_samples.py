"""Rooms that the tests use, and slow ways to what is said of rooms."""

import itertools
import random

from tablerings.base.lines import kernel_rows, reduced
from tablerings.base.polys import first_irreducible, poly_product
from tablerings.rings.rings import Ring
from tablerings.rooms.rooms import Room, quotient_room, rebased_room, subroom, subroom_made
from tests.samples import chance_table, full_over, low_ring, plain_rings, sums_of, turned


def unit_rows(width):
    """The rows with 1 at one place and 0 elsewhere."""
    return tuple(tuple(1 if i == j else 0 for j in range(width)) for i in range(width))


def combined(prime, width, numbers, rows):
    """The sum of rows of a width, each multiplied by its number, entry by entry."""
    return tuple(sum(number * row[at] for number, row in zip(numbers, rows)) % prime for at in range(width))


def table_of(room, member):
    """The table by which a member leads vectors, entry by entry."""
    prime, size, tables = room.ring.prime, room.size, room.tables
    return tuple(tuple(sum(member[i] * tables[i][r][c] for i in range(len(tables))) % prime for c in range(size))
                 for r in range(size))


def led(room, member, vector):
    """The vector to which a member leads a vector, by the table of the member."""
    return combined(room.ring.prime, room.size, vector, table_of(room, member))


def followed(prime, width, one, other):
    """One table followed by another one with rows of a width."""
    return tuple(combined(prime, width, row, other) for row in one)


def is_room(room):
    """Whether the tables of a room are those of one, by the document's words."""
    ring, size, tables = room.ring, room.size, room.tables
    for i, j in itertools.product(range(ring.size), repeat=2):
        if followed(ring.prime, size, tables[j], tables[i]) != table_of(room, ring.table[i][j]):
            return False
    return table_of(room, ring.one) == unit_rows(size)


def is_direct_map(room, further, table):
    """Whether a table is a map, by the document's words."""
    prime = room.ring.prime
    if len(table) != room.size or any(len(row) != further.size for row in table):
        return False
    return all(followed(prime, further.size, one, table) == followed(prime, further.size, table, other)
               for one, other in zip(room.tables, further.tables))


def direct_maps(room, further):
    """The space of all maps, by the equations for each entry of a table."""
    prime, size, width = room.ring.prime, room.size, further.size
    if size * width == 0:
        return ()
    rows = []
    for s, t in itertools.product(range(size), range(width)):
        row = []
        for one, other in zip(room.tables, further.tables):
            for i, j in itertools.product(range(size), range(width)):
                row.append(((one[i][s] if j == t else 0) - (other[t][j] if i == s else 0)) % prime)
        rows.append(tuple(row))
    return kernel_rows(prime, rows)


def tables_of(room, further, space):
    """The tables that the rows of a space of maps tell."""
    width = further.size
    return [tuple(row[at * width:(at + 1) * width] for at in range(room.size)) for row in space]


def vectors_of(room):
    """All vectors of a room."""
    return list(itertools.product(range(room.ring.prime), repeat=room.size))


def all_subrooms(room):
    """All subrooms of a small room, as spaces: sums of those that one vector makes."""
    prime, units = room.ring.prime, unit_rows(room.ring.size)
    single = {reduced(prime, [led(room, unit, vector) for unit in units]) for vector in vectors_of(room)}
    found, fresh = set(single) | {()}, set(single)
    while fresh:
        sums = {reduced(prime, one + other) for one in fresh for other in single}
        fresh = sums - found
        found |= sums
    return found


def vectors_in(room, space):
    """The set of the vectors of a space."""
    return sums_of(room.ring.prime, room.size, space)


def rebased_by_chance(room, seed):
    """The room told by other base vectors."""
    return rebased_room(room, chance_table(room.ring.prime, room.size, random.Random(seed)))


def made_by(room, count, seed):
    """A subroom that some vectors make, by chance."""
    chance = random.Random(seed)
    some = tuple(tuple(chance.randrange(room.ring.prime) for _ in range(room.size)) for _ in range(count))
    return subroom_made(room, some)


def rooms_of(ring, most, seed=0):
    """Rooms over a ring of at most so many base vectors, as they are made and told by other base vectors."""
    own = Room.own(ring)
    rooms = [Room.nothing(ring), own]
    for count in (1, 1, 2):
        seed += 1
        space = made_by(own, count, seed)
        rooms += [subroom(own, space), quotient_room(own, space)]
    rooms = [room for room in rooms if room.size <= most]
    small = sorted([room for room in rooms if 0 < room.size], key=lambda room: room.size)
    pairs = [(one, other) for one in small[:2] for other in small[-2:] if one.size + other.size <= most]
    rooms += [Room.side_by_side(one, other) for one, other in pairs]
    return rooms + [rebased_by_chance(room, seed + at) for at, room in enumerate(rooms[2:])]


def room_rings(prime):
    """Rings of many kinds over a prime, some told by other base members."""
    rings = plain_rings(prime)
    return rings[::2] + turned(rings[1::2], prime + 50)


def low_room_rings(prime):
    """Small rings over a prime: of size 1, fields, J of every kind, several blocks, two least rooms with arrows."""
    field2 = first_irreducible(prime, 2)
    rings = [Ring.full(prime, 1), Ring.of_poly(prime, field2), Ring.stairs(prime, 2), Ring.of_poly(prime, (0, 0, 1)),
             low_ring(prime, 3), Ring.both(Ring.full(prime, 1), Ring.full(prime, 1)), Ring.full(prime, 2)]
    return rings + turned(rings[2:], prime + 60)


def fields_and_more(prime):
    """Rings the least rooms of which have more self maps than the multiples by residues."""
    field2, field3 = first_irreducible(prime, 2), first_irreducible(prime, 3)
    rings = [Ring.of_poly(prime, field2), Ring.of_poly(prime, field3), full_over(prime, field2, 2),
             Ring.of_poly(prime, poly_product(prime, field2, field2)), Ring.both(Ring.of_poly(prime, field2), Ring.full(prime, 2))]
    return rings + turned(rings, prime + 70)


def swap_ring(prime):
    """The ring of two points with an arrow each way, all products of two arrows being 0."""
    names = ("p", "q", "a", "b")  # a leads from p to q, b from q to p
    products = {("p", "p"): "p", ("q", "q"): "q", ("p", "a"): "a", ("a", "q"): "a", ("q", "b"): "b", ("b", "p"): "b"}
    return Ring(prime, tuple(tuple(
        tuple(1 if products.get((one, other)) == name else 0 for name in names) for other in names) for one in names))


def twin_arrows(prime):
    """The ring of two points and two arrows from the one to the other."""
    names = ("p", "q", "a", "b")
    products = {("p", "p"): "p", ("q", "q"): "q", ("p", "a"): "a", ("a", "q"): "a", ("p", "b"): "b", ("b", "q"): "b"}
    return Ring(prime, tuple(tuple(
        tuple(1 if products.get((one, other)) == name else 0 for name in names) for other in names) for one in names))
