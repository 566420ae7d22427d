"""The self maps of a room: whether they split it, and into what. Nothing is checked here."""

from tablerings.base.lanes import LANE, Echelon, packed, unpacked
from tablerings.base.lines import combined, flat, kernel_of, kernel_rows, reduced, remainder, unit_rows
from tablerings.base.polywork import factor_pairs
from tablerings.base.splitting import first_told, order_poly, poly_led
from tablerings.base.traces import trace_spaces_of
from tablerings.rooms.acting import tables_within
from tablerings.rooms.covers import corner_rows, nil_echelon
from tablerings.rooms.homs import self_rows, table_of_row
from tablerings.rooms.rooms import sound_room


class Split:
    """What the self maps of a room tell of it.

    Either two subrooms other than 0 that are, added up, the room, and meet in 0; or, for an unsplittable room, the base
    of the space of the nil maps, a maker, and the degree. The attributes of the other case are None.
    """

    def __init__(self, halves, nil, maker, degree):
        self.halves = halves
        self.nil = nil
        self.maker = maker
        self.degree = degree


def head_echelon(room):
    """Vectors that make a base of the corners modulo what J makes, and an echelon that tells sums of them."""
    found = nil_echelon(room)
    low = [found.rows[at] for at in found.rows]
    heads = [row for base in corner_rows(room) for row in base if found.take(packed(row))]
    count = len(heads)
    told = Echelon(room.ring.prime, room.size + count)
    told.take_all([number << count * LANE for number in low])
    for at, row in enumerate(heads):
        told.take((packed(row) << count * LANE) + (1 << (count - at - 1) * LANE))
    return heads, told


def head_table(room, heads, told, table):
    """The table by which a self map leads the classes of the head vectors."""
    lines, count = [packed(row) for row in table], len(heads)
    made = [told.rest(room.lanes.led(lines, row) << count * LANE) for row in heads]
    return tuple([tuple([-number % room.ring.prime for number in unpacked(count, rest)]) for rest in made])


def factor_of(prime, table):
    """An irreducible factor of the polynomials of a table, and whether there is no other one."""
    lines, known = [packed(row) for row in table], []
    for row in unit_rows(len(table)):
        for factor, _ in factor_pairs(prime, order_poly(prime, lines, row)):
            if known and factor != known[0]:
                return (known[0], False)
            known = [factor]
    return (known[0], True)


def lines_followed(lanes, lines, others):
    """One table followed by another one, all told by the numbers of their rows."""
    return [lanes.led(others, unpacked(lanes.width, number)) for number in lines]


def halves_by(room, table, factor):
    """The vectors that some power of the value of a polynomial for a self map leads to 0, and what each power makes."""
    size, prime, lanes = room.size, room.ring.prime, room.lanes
    lines = [packed(row) for row in table]
    power = [packed(poly_led(prime, factor, lines, row)) for row in unit_rows(size)]
    number = 1
    while number < size:
        power = lines_followed(lanes, power, power)
        number = number * 2
    found = Echelon(prime, size)
    found.take_all(power)
    return (kernel_of(prime, size, power), found.base(size))


def lasting_power(room, table):
    """A power of a self map by the prime, beside which no map with a power 0 is left."""
    lanes, number = room.lanes, 1
    lines = [packed(row) for row in table]
    while number < room.size:
        power = lines
        for _ in range(room.ring.prime - 1):
            power = lines_followed(lanes, power, lines)
        lines = power
        number = number * room.ring.prime
    return tuple([unpacked(room.size, line) for line in lines])


def nil_rows(prime, rows, tables):
    """The base of the sums of some rows for which the sums of the tables beside them are in the greatest nil ideal."""
    flats = [flat(table) for table in tables]
    count = len(tables[0])
    base = reduced(prime, flats)
    sums = trace_spaces_of(prime, [table_of_row(count, count, row) for row in base])[-1]
    low = reduced(prime, [combined(prime, count * count, some, base) for some in sums])
    # Sums of the tables that lie in the ideal are those for which the rests beside it add up to 0.
    numbers = kernel_rows(prime, [remainder(prime, low, row) for row in flats])
    return reduced(prime, [combined(prime, len(rows[0]), some, rows) for some in numbers])


def made_split(room):
    """What the self maps of a room that is not 0 tell of it."""
    prime, size, rows = room.ring.prime, room.size, self_rows(room)
    tables = [table_of_row(size, size, row) for row in rows]
    heads, told = head_echelon(room)
    low = [head_table(room, heads, told, table) for table in tables]
    factors = [factor_of(prime, table) for table in low]
    for table, (factor, alone) in zip(tables, factors):
        if not alone:
            return Split(halves_by(room, table, factor), None, None, None)
    nil = nil_rows(prime, rows, low)
    degree = len(rows) - len(nil)
    for table, (factor, _) in zip(tables, factors):
        if len(factor) == degree + 1:
            return Split(None, nil, lasting_power(room, table), degree)

    def judged(numbers):
        """What a sum of self maps tells, or None."""
        table = table_of_row(size, size, combined(prime, size * size, numbers, rows))
        factor, alone = factor_of(prime, head_table(room, heads, told, table))
        if not alone:
            return Split(halves_by(room, table, factor), None, None, None)
        return Split(None, nil, lasting_power(room, table), degree) if len(factor) == degree + 1 else None

    return first_told(prime, len(rows), unit_rows(len(rows)), judged, 2)


def split_of_room(room):
    """What the self maps of a room that is not 0 tell of it, found once."""
    if "split" not in room.found:
        room.found["split"] = made_split(room)
    return room.found["split"]


def part_rooms(room):
    """The pairs of a space and of the room by itself for the subrooms of a parting, found once."""
    if "parts" not in room.found:
        room.found["parts"] = made_parts(room)
    return room.found["parts"]


def made_parts(room):
    """The pairs of a space and of the room by itself for the subrooms of a parting."""
    if room.size == 0:
        return []
    halves = split_of_room(room).halves
    if halves is None:
        return [(unit_rows(room.size), room)]
    found = []
    for half in halves:
        for space, part in part_rooms(sound_room(room.ring, tables_within(room, half))):
            # Reduced bases of parts of a half, told in the reduced base of the half, are reduced in the room, too.
            found.append((tuple([combined(room.ring.prime, room.size, row, half) for row in space]), part))
    return found
