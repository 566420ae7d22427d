"""Maps, parts, and rooms that are alike [11.1] to [11.6]."""

import itertools
import unittest

from tablerings.base.lines import reduced
from tablerings.base.polys import first_irreducible, is_irreducible, least_poly
from tablerings.base.spaces import is_space, kernel, space_of
from tablerings.errors import Refused, TooMany
from tablerings.rings.full import kinds
from tablerings.rings.idempotents import parting
from tablerings.rings.rings import Ring
from tablerings.rooms.least import least_rooms
from tablerings.rooms.maps import (
    alike_map, are_parts, is_alike_map, is_map, is_split_paper, is_unlike_paper, map_number, maps, parts, self_ring,
    split_paper, times_in, unlike_paper,
)
from tablerings.rooms.rooms import Room, is_subroom, quotient_room, subroom, turned_room
from tests.room_samples import (
    all_subrooms, combined, direct_maps, fields_and_more, followed, is_direct_map, low_room_rings, rebased_by_chance,
    room_rings, rooms_of, swap_ring, tables_of, twin_arrows, unit_rows,
)
from tests.samples import F2, K9, N4, PRIMES, U3, great_rings, junk, rows_of, sums_of, turned


def is_nil(prime, table):
    """Whether a power of a square table is 0."""
    power, size = table, len(table)
    for _ in range(size):
        power = followed(prime, size, power, table)
    return not any(map(any, power))


def is_unsplittable_by_trial(room):
    """Whether a small room is not 0 and has no two subrooms other than 0 that meet in 0 and add up to all."""
    every = [space for space in all_subrooms(room) if 0 < len(space) < room.size]
    return room.size > 0 and not any(is_sum(room, (one, other)) for one in every for other in every)


def is_sum(room, spaces):
    """Whether each vector is in just one way a sum of vectors of some spaces."""
    rows = tuple(row for space in spaces for row in space)
    return len(rows) == room.size and (not rows or len(space_of(room.ring.prime, room.size, rows)) == room.size)


def nil_maps(room):
    """The set of the self maps of a small room some power of which is 0."""
    size, prime = room.size, room.ring.prime
    every = sums_of(prime, size * size, direct_maps(room, room))
    return {row for row in every if is_nil(prime, tables_of(room, room, [row])[0])}


def is_maker(room, table, degree):
    """Whether a table is a self map with an irreducible least polynomial of a degree."""
    poly = least_poly(room.ring.prime, table)
    return is_direct_map(room, room, table) and is_irreducible(room.ring.prime, poly) and len(poly) == degree + 1


def twisted(prime, size):
    """The room of two arrows the first one of which leads each base vector to one, the second one one place on."""
    ring = twin_arrows(prime)
    tables = [[[0] * (2 * size) for _ in range(2 * size)] for _ in range(4)]
    for at in range(size):
        tables[0][at][at] = 1
        tables[1][size + at][size + at] = 1
        tables[2][size + at][at] = 1
        if at + 1 < size:
            tables[3][size + at][at + 1] = 1
    return Room(ring, tuple(tuple(tuple(row) for row in table) for table in tables))


def tested_rooms(prime, most):
    """Rooms of many rings over a prime."""
    rings = room_rings(prime)[::2] + low_room_rings(prime)[::3] + fields_and_more(prime)[::3] + [swap_ring(prime)]
    return [(ring, rooms_of(ring, most)) for ring in rings]


class MapsTest(unittest.TestCase):
    def test_maps(self):
        """[11.1]"""
        for prime in PRIMES:
            for _, rooms in tested_rooms(prime, 9):
                for one, other in itertools.product(rooms[::2], rooms[1::3] + rooms[:1]):
                    if one.size * other.size > 60:
                        continue
                    space = maps(one, other)
                    self.assertEqual(space, direct_maps(one, other))
                    self.assertEqual(map_number(one, other), len(space))
                    if space:
                        self.assertTrue(is_space(prime, one.size * other.size, space))
                    for table in tables_of(one, other, space):
                        self.assertIs(is_map(one, other, table), True)
                        self.check_spaces(one, other, table)

    def check_spaces(self, one, other, table):
        """What comes to 0, and what is led to, are subrooms."""
        prime = one.ring.prime
        self.assertTrue(is_subroom(one, kernel(prime, table)))
        self.assertTrue(is_subroom(other, space_of(prime, other.size, table)))

    def test_maps_one_after_the_other(self):
        for prime in PRIMES:
            for _, rooms in tested_rooms(prime, 6)[::2]:
                for one, other, last in itertools.product(rooms[1:4], rooms[2:5], rooms[3:6]):
                    if one.size and other.size and last.size:
                        for f in tables_of(one, other, maps(one, other))[:2]:
                            for g in tables_of(other, last, maps(other, last))[:2]:
                                self.assertIs(is_map(one, last, followed(prime, last.size, f, g)), True)

    def test_all_tables_of_small_rooms(self):
        for prime in PRIMES:
            for ring in low_room_rings(prime)[::2]:
                rooms = rooms_of(ring, 2 if prime > 3 else 3)
                for one, other in itertools.product(rooms[:4], rooms[-4:]):
                    if prime ** (one.size * other.size) <= 700:
                        for table in itertools.product(rows_of(prime, other.size), repeat=one.size):
                            self.assertIs(is_map(one, other, table), is_direct_map(one, other, table))

    def test_great_maps(self):
        for prime in PRIMES:
            ring = Ring.stairs(prime, 3)
            room = Room.side_by_side(Room.own(ring), Room.own(ring))
            for one in (room, rebased_by_chance(room, 1)):
                self.assertEqual(len(maps(one, one)), 24)
                self.assertTrue(all(is_direct_map(one, one, table) for table in tables_of(one, one, maps(one, one))))
            point, many = least_rooms(ring)[0], Room.side_by_side(Room.side_by_side(room, room), room)
            self.assertEqual([len(maps(many, point)), len(maps(point, many))],
                             [len(direct_maps(many, point)), len(direct_maps(point, many))])
            fields = least_rooms(Ring.full(prime, 1))[0]
            wide = fields
            for _ in range(11):
                wide = Room.side_by_side(wide, fields)
            self.assertEqual([map_number(wide, wide), len(maps(wide, wide)[-1])], [144, 144])

    def test_size_0(self):
        for prime in PRIMES:
            ring = Ring.stairs(prime, 2)
            own, nothing = Room.own(ring), Room.nothing(ring)
            self.assertEqual([maps(nothing, own), maps(own, nothing), maps(nothing, nothing), map_number(nothing, own)], [(), (), (), 0])
            self.assertEqual([is_map(nothing, own, ()), is_map(own, nothing, ((),) * 3), is_map(nothing, nothing, ())], [True] * 3)
            self.assertEqual([is_map(nothing, own, ((),)), is_map(own, nothing, ()), is_map(own, nothing, ((),) * 2),
                              is_map(own, nothing, ((0,),) * 3), is_map(nothing, nothing, [])], [False] * 5)
            self.assertEqual([alike_map(nothing, nothing), alike_map(own, nothing), alike_map(nothing, own)], [(), None, None])
            self.assertEqual([is_alike_map(nothing, nothing, ()), is_alike_map(own, nothing, ((),) * 3), is_alike_map(nothing, own, ())],
                             [True, False, False])
            self.assertEqual([parts(nothing), are_parts(nothing, ()), are_parts(nothing, ((),)), unlike_paper(nothing, nothing)],
                             [(), True, False, None])
            self.assertIs(is_unlike_paper(own, nothing, unlike_paper(own, nothing)), True)

    def test_what_is_judged(self):
        for room in (Room.own(F2), Room.own(K9), Room.nothing(N4), Room.own(U3)):
            unit = unit_rows(room.size)
            for value in junk() + [list(unit), tuple(list(row) for row in unit), tuple(tuple(map(bool, row)) for row in unit),
                                   unit + unit[:1], unit[1:], ((10 ** 5000,) * room.size,) * room.size, (unit,)]:
                right = value == unit and not any(number is True or isinstance(row, list) for row in value for number in row) and (
                    isinstance(value, tuple))
                self.assertIs(is_map(room, room, value), right)
                self.assertIs(is_alike_map(room, room, value), right)


class SplitTest(unittest.TestCase):
    def test_any_paper(self):
        """[11.2]"""
        seen = {"parts": 0, "whole": 0}
        for prime in PRIMES:
            for _, rooms in tested_rooms(prime, 9):
                for room in rooms:
                    if room.size:
                        seen[self.check_paper(room)] += 1
        self.assertGreater(min(seen.values()), 60)

    def check_paper(self, room):
        found = split_paper(room)
        self.assertIs(is_split_paper(room, found), True)
        word, one, other = found
        if word == "parts":
            self.assertTrue(one and other and is_subroom(room, one) and is_subroom(room, other) and is_sum(room, (one, other)))
            return word
        prime, size, every = room.ring.prime, room.size, direct_maps(room, room)
        self.assertTrue(is_maker(room, other, len(every) - len(one)))
        for row in one:
            table = tables_of(room, room, [row])[0]
            self.assertTrue(is_direct_map(room, room, table) and is_nil(prime, table))
        # Nil maps ahead of self maps are nil, and each product of as many as the size is 0.
        tables, nil = tables_of(room, room, every), tables_of(room, room, one)
        for f, g in itertools.product(tables[:4], nil[:4]):
            for made in (followed(prime, size, f, g), followed(prime, size, g, f)):
                self.assertEqual(space_of(prime, size * size, one + (sum(made, ()),)), one)
        power = nil
        for _ in range(size - 1):
            rows = {sum(followed(prime, size, f, g), ()) for f in power for g in nil}
            power = tables_of(room, room, space_of(prime, size * size, tuple(rows)) if len(rows) <= 200 and rows else ())
        self.assertEqual(power, [] if nil else power)
        return word

    def test_by_trial(self):
        for prime in PRIMES:
            for ring in low_room_rings(prime) + [swap_ring(prime), twin_arrows(prime)] + fields_and_more(prime)[:1]:
                for room in rooms_of(ring, 4):
                    if room.size == 0 or prime ** room.size > 130 or prime ** map_number(room, room) > 900:
                        continue
                    right = is_unsplittable_by_trial(room)
                    found = split_paper(room)
                    self.assertEqual(found[0] == "whole", right)
                    nil = nil_maps(room)
                    if right:
                        self.assertEqual(sums_of(prime, room.size ** 2, found[1]), nil)
                    self.check_all_makers(room, right, found)
                    self.check_all_pairs(room)

    def check_all_makers(self, room, right, found):
        """Each self map is judged, as a maker with the nil maps that were found."""
        prime, size = room.ring.prime, room.size
        nil = found[1] if right else ()
        degree = map_number(room, room) - len(nil)
        rows = sums_of(prime, size * size, direct_maps(room, room))
        for table in tables_of(room, room, sorted(rows)[::1 + len(rows) // 40]):
            self.assertIs(is_split_paper(room, ("whole", nil, table)), right and is_maker(room, table, degree))

    def check_all_pairs(self, room):
        """Each pair of subrooms is judged."""
        every = sorted(all_subrooms(room))
        for one, other in itertools.product(every[:9], every[-9:]):
            right = bool(one) and bool(other) and is_sum(room, (one, other))
            self.assertIs(is_split_paper(room, ("parts", one, other)), right)

    def test_papers_right_next_to_right_ones(self):
        for prime in PRIMES:
            own = Room.own(Ring.of_poly(prime, (0, 0, 1)))
            nil, unit = ((0, 1, 0, 0),), ((1, 0), (0, 1))
            self.assertIs(is_split_paper(own, ("whole", nil, unit)), True)
            self.assertIs(is_split_paper(own, ("whole", nil, ((0, 0), (0, 0)))), True)
            for value in (("whole", (), unit), ("whole", nil, ((1, 1), (0, 1))), ("whole", nil, ((1, 0), (1, 1))), ["whole", nil, unit],
                          ("whole", ((1, 0, 0, 1), (0, 1, 0, 0)), unit), ("whole", [nil[0]], unit), ("whole", nil, [unit[0], unit[1]]),
                          ("parts", nil, unit), ("whole", ((0, True, 0, 0),), unit), ("whole", nil, ((True, 0), (0, 1))), ("whole", nil),
                          ("Whole", nil, unit), ("whole", nil, unit, 1), ("parts", ((0, 1),), ((1, 0),)), ("parts", ((0, 1),), ())):
                self.assertIs(is_split_paper(own, value), False)
            for value in junk():
                self.assertIs(is_split_paper(own, value), False)
                self.assertIs(is_split_paper(own, ("whole", value, unit)), False)
                self.assertIs(is_split_paper(own, ("whole", nil, value)), False)
                self.assertIs(is_split_paper(own, ("parts", ((0, 1),), value)), False)
                self.assertIs(is_split_paper(own, (value, nil, unit)), False)

    def test_degrees(self):
        for prime in PRIMES:
            for degree in (1, 2, 3, 4, 6):
                for room in (Room.own(Ring.of_poly(prime, first_irreducible(prime, degree))),):
                    for one in (room, rebased_by_chance(room, 6)):
                        word, nil, maker = split_paper(one)
                        self.assertEqual([word, nil, len(least_poly(prime, maker)) - 1], ["whole", (), degree])

    def test_twisted_rooms(self):
        """Unsplittable rooms with heads and socles of several least rooms."""
        for prime in PRIMES:
            for size in (1, 2, 3, 5, 6):
                room = rebased_by_chance(twisted(prime, size), size)
                self.assertEqual(split_paper(room)[0], "whole")
                self.assertEqual(len(split_paper(room)[1]), size - 1)
                self.assertEqual(self.check_paper(room), "whole")
            both = rebased_by_chance(Room.side_by_side(twisted(prime, 2), twisted(prime, 3)), 5)
            self.assertEqual(sorted(len(space) for space in parts(both)), [4, 6])


class PartsTest(unittest.TestCase):
    def test_any_parting(self):
        """[11.3]"""
        for prime in PRIMES:
            for _, rooms in tested_rooms(prime, 12):
                for room in rooms[::3]:
                    found = parts(room)
                    self.assertIs(are_parts(room, found), True)
                    self.assertIs(are_parts(room, found[::-1]), True)
                    self.assertTrue(is_sum(room, found))
                    for space in found:
                        part = subroom(room, space)
                        self.assertEqual(split_paper(part)[0], "whole")
                        if prime ** part.size <= 60:
                            self.assertTrue(is_unsplittable_by_trial(part))
                    other = parts(rebased_by_chance(room, 8))
                    self.assertEqual(sorted(map(len, found)), sorted(map(len, other)))
                    if found:
                        self.assertIs(are_parts(room, found[1:]), False)
                        self.assertIs(are_parts(room, found + found[:1]), False)
                        self.assertIs(are_parts(room, found[1:] + ((),)), False)
                        self.assertIs(are_parts(room, list(found)), False)
                    if len(found) > 1:
                        joined = space_of(prime, room.size, found[0] + found[1])
                        self.assertIs(are_parts(room, (joined,) + found[2:]), False)

    def test_all_partings_of_small_rooms(self):
        for prime in PRIMES:
            for ring in low_room_rings(prime)[::2] + [swap_ring(prime)]:
                for room in rooms_of(ring, 3):
                    if prime ** room.size > 30:
                        continue
                    every = sorted(all_subrooms(room))
                    whole = {space for space in every if space and is_unsplittable_by_trial(subroom(room, space))}
                    for count in range(4):
                        for value in itertools.islice(itertools.product(every, repeat=count), 400):
                            right = set(value) <= whole and is_sum(room, value)
                            self.assertIs(are_parts(room, value), right)

    def test_parts_of_the_own_room(self):
        for prime in PRIMES:
            for ring in room_rings(prime) + great_rings(prime) + turned(great_rings(prime), 4):
                found = parts(Room.own(ring))
                self.assertEqual(len(found), len(parting(ring)))
                self.assertIs(are_parts(Room.own(ring), found), True)
                spaces = tuple(space_of(prime, ring.size, tuple(ring.product(unit, e) for unit in unit_rows(ring.size)))
                               for e in parting(ring))
                self.assertIs(are_parts(Room.own(ring), spaces), True)

    def test_sums_of_alike_parts(self):
        for prime in PRIMES:
            for ring in fields_and_more(prime) + low_room_rings(prime):
                for room in least_rooms(ring):
                    many, count = room, 1
                    while (count + 1) * room.size <= 6:
                        many, count = Room.side_by_side(many, room), count + 1
                    many = rebased_by_chance(many, 3)
                    self.assertEqual([len(space) for space in parts(many)], [room.size] * count)
                    self.assertEqual(times_in(room, many), count)

    def test_where_the_first_maps_make_a_field(self):
        """The least room with the field of 49 members, twice: the first base maps are all of a field."""
        for prime in PRIMES:
            point = Room.own(Ring.of_poly(prime, first_irreducible(prime, 2)))
            many = Room.side_by_side(Room.side_by_side(point, point), point)
            for seed in range(6):
                self.assertEqual([len(space) for space in parts(rebased_by_chance(many, seed))], [2, 2, 2])

    def test_what_is_judged(self):
        for room in (Room.own(F2), Room.own(K9), Room.nothing(N4), Room.own(U3)):
            for value in junk() + [((),), ((), ()), (unit_rows(room.size),) * 2, ([],), unit_rows(room.size)]:
                right = isinstance(value, tuple) and value == parts(room)
                if not right and room.ring == K9 and value == (unit_rows(2),):
                    continue
                self.assertIs(are_parts(room, value), right)


class SelfRingTest(unittest.TestCase):
    def test_self_ring(self):
        for prime in PRIMES:
            for _, rooms in tested_rooms(prime, 9):
                for room in rooms[::2]:
                    if room.size == 0 or map_number(room, room) > 9:
                        continue
                    ring, base = self_ring(room), maps(room, room)
                    tables = tables_of(room, room, base)
                    self.assertEqual([ring.size, ring.prime], [len(base), prime])
                    self.assertEqual(Ring(prime, ring.table), ring)
                    self.assertEqual(combined(prime, room.size ** 2, ring.one, base), sum(unit_rows(room.size), ()))
                    for (i, f), (j, g) in itertools.product(enumerate(tables), repeat=2):
                        made = combined(prime, room.size ** 2, ring.table[i][j], base)
                        self.assertEqual(made, sum(followed(prime, room.size, f, g), ()))
                    word = split_paper(room)[0]
                    self.assertEqual(word == "whole", len(kinds(ring)) == 1 and kinds(ring)[0][0] == 1)
                    if word == "whole":
                        self.assertEqual(kinds(ring), ((1, len(base) - len(split_paper(room)[1])),))
                    self.assertEqual(len(parts(room)), len(parting(ring)))

    def test_refused(self):
        for prime in PRIMES:
            point = least_rooms(Ring.full(prime, 1))[0]
            rooms = [point]
            while len(rooms) < 13:
                rooms.append(Room.side_by_side(rooms[-1], point))
            self.assertEqual(self_ring(rooms[2]).size, 9)
            for room, most in ((rooms[3], 9), (rooms[11], 9), (rooms[12], 144)):
                with self.assertRaises(TooMany) as caught:
                    self_ring(room)
                self.assertEqual(caught.exception.most, most)
            with self.assertRaises(Refused) as caught:
                self_ring(Room.nothing(Ring.full(prime, 1)))
            self.assertEqual(caught.exception.reason, ("nothing",))


class TimesTest(unittest.TestCase):
    def times_by_words(self, part, room):
        """How often a part stands in a room, by the document's words."""
        prime, size = part.ring.prime, part.size
        ahead, back = direct_maps(part, room), tables_of(room, part, direct_maps(room, part))
        word, nil, maker = split_paper(part)
        self.assertEqual(word, "whole")
        rows = []
        for f in tables_of(part, room, ahead):
            made = [sum(followed(prime, size, f, g), ()) for g in back]
            leads = [row.index(1) for row in nil]
            made = [combined(prime, size * size, [1] + [-row[at] for at in leads], (row,) + nil) for row in made]
            rows.append(sum(made, ()))
        return len(reduced(prime, rows)) // (len(least_poly(prime, maker)) - 1)

    def test_each_way(self):
        """[11.4]: by its words, by the partings of both rooms, and by what is put together."""
        for prime in PRIMES:
            for ring, rooms in tested_rooms(prime, 9):
                for room in rooms[1::2]:
                    spaces = parts(room)
                    pieces = [subroom(room, space) for space in spaces] + list(least_rooms(ring))[:2]
                    for part in pieces[:4]:
                        times = times_in(part, room)
                        self.assertEqual(times, self.times_by_words(part, room))
                        alike = [piece for piece in pieces[:len(spaces)] if piece.size == part.size and alike_map(part, piece) is not None]
                        self.assertEqual(times, len(alike))
                        if room.size * 2 * part.size <= 144:
                            self.assertEqual(times_in(part, Room.side_by_side(room, room)), 2 * times)
                        self.assertEqual(times_in(rebased_by_chance(part, 1), rebased_by_chance(room, 2)), times)

    def test_wide_rooms(self):
        for prime in PRIMES:
            ring = Ring.stairs(prime, 2)
            own = Room.own(ring)
            room = own
            for _ in range(11):
                room = Room.side_by_side(room, own)
            room = rebased_by_chance(room, 3)
            found = [times_in(subroom(own, space), room) for space in parts(own)]
            self.assertEqual([room.size, found], [36, [12, 12]])
            for point in least_rooms(ring):
                inside = [alike_map(point, subroom(own, space)) is not None for space in parts(own) if len(space) == 1]
                self.assertEqual(times_in(point, room), 12 * sum(inside))
            self.assertEqual(times_in(own_part(own), Room.nothing(ring)), 0)

    def test_refused(self):
        for prime in PRIMES:
            ring = Ring.stairs(prime, 2)
            own = Room.own(ring)
            for room in (own, Room.side_by_side(least_rooms(ring)[0], least_rooms(ring)[0])):
                with self.assertRaises(Refused) as caught:
                    times_in(room, own)
                self.assertEqual(caught.exception.reason, ("parts",))


def own_part(own):
    """The first part of a room, by itself."""
    return subroom(own, parts(own)[0])


class AlikeTest(unittest.TestCase):
    def test_alike_rooms(self):
        """[11.5]"""
        for prime in PRIMES:
            for _, rooms in tested_rooms(prime, 12):
                for room in rooms[1::3]:
                    other = rebased_by_chance(room, 9)
                    for one, two in ((room, other), (other, room), (room, room)):
                        table = alike_map(one, two)
                        self.assertTrue(is_direct_map(one, two, table))
                        self.assertEqual(len(space_of(prime, one.size, table)) if table else 0, one.size)
                        self.assertIs(is_alike_map(one, two, table), True)
                        self.assertIsNone(unlike_paper(one, two))
                        self.assertIs(is_unlike_paper(one, two, None), False)

    def test_all_pairs(self):
        seen = {True: 0, False: 0}
        for prime in PRIMES:
            for ring, rooms in tested_rooms(prime, 6):
                some = [room for room in rooms if room.size <= 6]
                some += [turned_room(turned_room(some[-1]))]
                for one, other in itertools.islice(itertools.combinations(some, 2), len(rooms) % 5, None, 8):
                    table, paper = alike_map(one, other), unlike_paper(one, other)
                    seen[table is None] += 1
                    self.assertEqual(table is None, paper is not None)
                    self.assertEqual(self.equal_counts(one, other), paper is None)
                    if paper is None:
                        self.assertIs(is_alike_map(one, other, table), True)
                        self.assertTrue(is_direct_map(one, other, table))
                    else:
                        self.check_unlike(one, other, paper)
        self.assertGreater(min(seen.values()), 30)

    def equal_counts(self, one, other):
        """Whether each part of both stands equally often in them."""
        pieces = [subroom(room, space) for room in (one, other) for space in parts(room)]
        return all(times_in(piece, one) == times_in(piece, other) for piece in pieces)

    def check_unlike(self, one, other, paper):
        part, ahead, behind = paper
        self.assertNotEqual(ahead, behind)
        self.assertEqual(split_paper(part)[0], "whole")
        self.assertEqual([times_in(part, one), times_in(part, other)], [ahead, behind])
        self.assertIs(is_unlike_paper(one, other, paper), True)
        self.assertIs(is_unlike_paper(one, other, (rebased_by_chance(part, 2), ahead, behind)), True)
        for value in ((part, behind, ahead), (part, ahead, ahead), (part, ahead), list(paper), (part, ahead + 1, behind), paper + (1,),
                      (one.ring, ahead, behind), (part.tables, ahead, behind), (Room.nothing(one.ring), 0, 1), None,
                      (part, 10 ** 5000, behind), (part, str(ahead), behind), (part, None, behind)):
            self.assertIs(is_unlike_paper(one, other, value), False)

    def test_true_is_not_1(self):
        for prime in PRIMES:
            ring = Ring.full(prime, 1)
            point, nothing = least_rooms(ring)[0], Room.nothing(ring)
            self.assertIs(is_unlike_paper(point, nothing, (point, 1, 0)), True)
            for value in ((point, True, 0), (point, 1, False), (point, True, False)):
                self.assertIs(is_unlike_paper(point, nothing, value), False)

    def test_all_triples(self):
        for prime in PRIMES:
            ring = Ring.of_poly(prime, (0, 0, 1))
            point, line = least_rooms(ring)[0], Room.own(ring)
            one, other = Room.side_by_side(point, line), Room.side_by_side(Room.side_by_side(point, point), point)
            pieces = {"point": (point, 1, 3), "line": (line, 1, 0), "both": (one, 1, 0), "nothing": (Room.nothing(ring), 0, 0)}
            for word, (part, ahead, behind) in pieces.items():
                for a, b in itertools.product(range(4), repeat=2):
                    right = word in ("point", "line") and (a, b) == (ahead, behind)
                    self.assertIs(is_unlike_paper(one, other, (part, a, b)), right)

    def test_parts_that_are_too_great(self):
        """An unsplittable room of a size above 12 is in none of both, and is judged to be no part of a paper."""
        for prime in PRIMES:
            great = twisted(prime, 7)
            small = twisted(prime, 1)
            for value in ((great, 0, 1), (great, 1, 0), (great, 0, 0)):
                self.assertIs(is_unlike_paper(small, Room.nothing(small.ring), value), False)
            ring = Ring.full(prime, 1)
            point, many = least_rooms(ring)[0], Room(ring, (unit_rows(7),))
            self.assertIs(is_unlike_paper(point, Room.nothing(ring), (many, 1, 0)), False)
            self.assertIs(is_unlike_paper(point, Room.nothing(ring), (Room(ring, (unit_rows(40),)), 1, 0)), False)

    def test_number_of_maps(self):
        """[11.5]: rooms that are not alike have unequally many maps from some room that is not greater."""
        seen = {True: 0, False: 0}
        for prime in PRIMES:
            for ring in low_room_rings(prime)[::2] + [swap_ring(prime)]:
                rooms = [room for room in rooms_of(ring, 4) if 0 < room.size]
                for one, other in itertools.combinations(rooms, 2):
                    if one.size == other.size and prime ** one.size <= 60:
                        small = [quotient_room(room, space) for room in (one, other) for space in all_subrooms(room)]
                        equal = all(map_number(room, one) == map_number(room, other) for room in small)
                        seen[equal] += 1
                        self.assertEqual(alike_map(one, other) is not None, equal)
        self.assertGreater(min(seen.values()), 20)

    def test_all_tables_of_small_rooms(self):
        for prime in PRIMES:
            for ring in low_room_rings(prime)[::2]:
                for one, other in itertools.product(rooms_of(ring, 2)[-3:], repeat=2):
                    if one.size == other.size == 2:
                        for table in itertools.product(rows_of(prime, 2), repeat=2):
                            right = is_direct_map(one, other, table) and len(space_of(prime, 2, table)) == 2
                            self.assertIs(is_alike_map(one, other, table), right)


class NotTrueTest(unittest.TestCase):
    """[11.6]"""

    def test_maps_from_least_rooms(self):
        for prime in PRIMES:
            ring = Ring.of_poly(prime, (0, 0, 1))
            point, line = least_rooms(ring)[0], Room.own(ring)
            self.assertEqual([map_number(point, line), map_number(point, point)], [1, 1])
            self.assertIsNone(alike_map(point, line))

    def test_equally_many_self_maps(self):
        for prime in PRIMES:
            ring = Ring.stairs(prime, 2)
            one, other = least_rooms(ring)
            self.assertEqual([map_number(one, one), map_number(other, other), alike_map(one, other)], [1, 1, None])

    def test_a_self_map_that_is_not_one_to_one(self):
        for prime in PRIMES:
            ring = Ring.full(prime, 1)
            room, table = Room(ring, (unit_rows(2),)), ((1, 0), (0, 0))
            self.assertTrue(is_map(room, room, table) and not is_nil(prime, table))

    def test_just_one_parting(self):
        for prime in PRIMES:
            room = Room(Ring.full(prime, 1), (unit_rows(2),))
            for value in ((((1, 0),), ((0, 1),)), (((1, 1),), ((0, 1),))):
                self.assertIs(are_parts(room, value), True)


if __name__ == "__main__":
    unittest.main()
