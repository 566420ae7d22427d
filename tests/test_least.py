"""Least rooms, lists and layers [10.1] to [10.6]."""

import itertools
import random
import unittest

from tablerings.base.polys import first_irreducible, is_irreducible, least_poly
from tablerings.base.spaces import kernel, space_of, undone_table
from tablerings.errors import Refused
from tablerings.rings.full import kinds
from tablerings.rings.ideals import quotient_ring
from tablerings.rings.radical import radical
from tablerings.rings.rings import Ring
from tablerings.rooms.least import (
    are_least_rooms, is_room_paper, layers, least_rooms, list_of, radical_by_rooms, room_paper, socle_layers,
)
from tablerings.rooms.rooms import (
    Room, is_subroom, quotient_room, room_killers, subroom, subroom_made, turned_room,
)
from tests.room_samples import (
    all_subrooms, direct_maps, fields_and_more, is_direct_map, led, low_room_rings, made_by, rebased_by_chance, room_rings,
    rooms_of, swap_ring, table_of, tables_of, twin_arrows, unit_rows, vectors_in, vectors_of,
)
from tests.samples import (
    C4, F2, K9, N4, PRIMES, S3, U3, chance_table, full_over, great_rings, junk, low_ring, rows_of, some_rows, sums_of, turned,
)
from tests.test_rooms import wide_room


def is_least(room):
    """Whether a room has just two subrooms, 0 and all of it."""
    return all_subrooms(room) == {(), unit_rows(room.size)} and room.size > 0


def is_least_paper(room, x, v, w, f):
    """Whether these tell that a room is least, by the document's words; they have the form that is asked for."""
    prime, size, turned_one = room.ring.prime, room.size, turned_room(room)
    if not is_direct_map(room, room, f) or not any(v) or not any(w):
        return False
    poly = least_poly(prime, f)
    if not is_irreducible(prime, poly) or len(poly) - 1 != len(kernel(prime, table_of(room, x))):
        return False
    if any(led(room, x, v)) or any(led(turned_one, x, w)):
        return False
    return len(subroom_made(room, (v,))) == size == len(subroom_made(turned_one, (w,)))


def is_paper(room, value):
    """Whether a value that has the form of a paper is one."""
    if value[0] == "least":
        return is_least_paper(room, *value[1:])
    return is_subroom(room, value[1]) and 0 < len(value[1]) < room.size


def are_alike(room, further):
    """Whether small rooms are alike: some map is undone by a table."""
    prime, size = room.ring.prime, room.size
    if size != further.size:
        return False
    space = direct_maps(room, further)
    return any(len(space_of(prime, size, table)) == size
               for table in tables_of(room, further, sums_of(prime, size * size, space)))


def row_of_subrooms(room, subrooms):
    """Subrooms, each in the next one, that cannot be filled up."""
    row = [()]
    while len(row[-1]) < room.size:
        above = [space for space in subrooms if len(space) > len(row[-1]) and vectors_in(room, row[-1]) <= vectors_in(room, space)]
        row.append(min(above, key=lambda space: (len(space), [-number for line in space for number in line])))
    return row


def made_of(room, space, rows):
    """The space of all sums of what some members make of the vectors of a space."""
    found = tuple(led(room, j, v) for j in rows for v in space)
    return space_of(room.ring.prime, room.size, found) if room.size else ()


class PaperTest(unittest.TestCase):
    def test_any_paper(self):
        """[10.1], [10.2]"""
        seen = {"least": 0, "subroom": 0}
        for prime in PRIMES:
            for ring in low_room_rings(prime) + fields_and_more(prime)[:2]:
                for room in rooms_of(ring, 4) + list(least_rooms(ring)):
                    if room.size == 0:
                        continue
                    found = room_paper(room)
                    self.assertTrue(is_paper(room, found))
                    self.assertIs(is_room_paper(room, found), True)
                    seen[found[0]] += 1
                    if prime ** room.size <= 130:
                        self.assertEqual(found[0] == "least", is_least(room))
        self.assertGreater(min(seen.values()), 40)

    def test_great_rooms(self):
        for prime in PRIMES:
            for ring in room_rings(prime) + great_rings(prime) + fields_and_more(prime):
                for room in list(least_rooms(ring)) + rooms_of(ring, 9)[1:5] + [rebased_by_chance(one, 4) for one in least_rooms(ring)]:
                    if room.size:
                        found = room_paper(room)
                        self.assertTrue(is_paper(room, found))
                        self.assertIs(is_room_paper(room, found), True)
                        self.assertEqual(found[0] == "least", sum(list_of(room)) == 1)
            room = wide_room(prime)
            self.assertEqual([room_paper(room)[0], is_room_paper(room, room_paper(room))], ["subroom", True])
            self.assertIs(is_room_paper(room, ("least", room.ring.one, unit_rows(40)[0], unit_rows(40)[0], unit_rows(40))), False)

    def test_all_papers_of_small_rooms(self):
        seen = 0
        rings = [Ring.full(2, 1), Ring.full(2, 2), Ring.of_poly(2, (1, 1, 1)), Ring.of_poly(2, (0, 0, 1)), Ring.full(3, 1),
                 Ring.both(Ring.full(2, 1), Ring.full(2, 1)), Ring.full(5, 1), Ring.full(7, 1)]
        for ring in rings + turned(rings[1:4], 8):
            rooms = [room for room in rooms_of(ring, 2) + list(least_rooms(ring)) if 0 < room.size <= 2]
            for room in rooms[:1] + rooms[-1:]:
                vectors = vectors_of(room)
                tables = list(itertools.product(vectors, repeat=room.size))
                for x, v, w, f in itertools.product(rows_of(ring.prime, ring.size), vectors, vectors, tables):
                    value = ("least", x, v, w, f)
                    right = is_least_paper(room, x, v, w, f)
                    seen += right
                    self.assertIs(is_room_paper(room, value), right)
        self.assertGreater(seen, 100)

    def test_papers_right_next_to_right_ones(self):
        for prime in PRIMES:
            for ring in fields_and_more(prime) + [Ring.full(prime, 3)]:
                for room in least_rooms(ring):
                    word, x, v, w, f = room_paper(room)
                    for value in [(word, a, v, w, f) for a in some_rows(prime, ring.size, 4, 1)] + [
                            (word, x, b, w, f) for b in some_rows(prime, room.size, 4, 2)] + [
                            (word, x, v, b, f) for b in some_rows(prime, room.size, 4, 3)] + [
                            (word, x, v, w, g) for g in (unit_rows(room.size), chance_table(prime, room.size, random.Random(4)))]:
                        self.assertIs(is_room_paper(room, value), is_paper(room, value))

    def test_what_is_judged(self):
        for room in (Room.own(K9), Room.own(F2), least_rooms(F2)[0], Room.nothing(N4), wide_room(5)):
            right = room_paper(room) if room.size else ("subroom", ())
            for value in junk() + [list(right), right + (1,), right[:-1], (right[0].upper(),) + right[1:], ("subroom", ()), ("least",),
                                   ("subroom", unit_rows(room.size)), ("least", None, None, None, None), ("subroom", None),
                                   ("subroom", ((10 ** 5000,) * room.size,)), ("subroom", [right[1]]), (None,) + right[1:],
                                   ("subroom", (tuple(map(bool, unit_rows(room.size)[0])) if room.size else (True,),))]:
                self.assertIs(is_room_paper(room, value), False)
            if right[0] == "least":
                for at in range(1, 5):
                    for wrong in junk() + [list(right[at]), (0,) * len(right[at]), right[at] + right[at]]:
                        value = right[:at] + (wrong,) + right[at + 1:]
                        self.assertIs(is_room_paper(room, value), isinstance(wrong, tuple) and wrong == right[at] or (
                            at == 1 and room.ring.prime == 3 and wrong == (0, 0)))

    def test_nothing(self):
        for prime in PRIMES:
            with self.assertRaises(Refused) as caught:
                room_paper(Room.nothing(Ring.full(prime, 2)))
            self.assertEqual(caught.exception.reason, ("nothing",))


class LeastTest(unittest.TestCase):
    def test_least_rooms(self):
        """[10.1], [10.4]"""
        for prime in PRIMES:
            for ring in room_rings(prime) + great_rings(prime) + turned(great_rings(prime), 9) + fields_and_more(prime):
                found = least_rooms(ring)
                self.assertIs(are_least_rooms(ring, found), True)
                self.assertEqual(len(found), len(kinds(ring)))
                self.assertEqual(least_rooms(Ring(prime, ring.table)), found)
                told = []
                for room in found:
                    self.assertEqual(Room(ring, room.tables), room)
                    maps = direct_maps(room, room)
                    told.append((room.size // len(maps), len(maps)))
                    for table in tables_of(room, room, maps):
                        self.assertIsNotNone(undone_table(prime, table))
                    for v in [row for row in some_rows(prime, room.size, 3, 1) if any(row)]:
                        self.assertEqual(len(subroom_made(room, (v,))), room.size)
                self.assertEqual(tuple(sorted(told)), kinds(ring))
                for one, other in itertools.combinations(found, 2):
                    self.assertEqual(direct_maps(one, other), ())

    def test_least_by_trial(self):
        for prime in PRIMES:
            for ring in low_room_rings(prime) + fields_and_more(prime)[:2] + [swap_ring(prime)]:
                for room in least_rooms(ring):
                    self.assertTrue(is_least(room))

    def test_rooms_of_the_ring_modulo_nil(self):
        """[10.4]"""
        for prime in PRIMES:
            for ring in room_rings(prime) + great_rings(prime)[::2]:
                nil, own = radical(ring), Room.own(ring)
                self.assertEqual(radical_by_rooms(ring), nil)
                self.assertEqual(sorted(room.size for room in least_rooms(quotient_ring(ring, nil))),
                                 sorted(room.size for room in least_rooms(ring)))
                low = quotient_room(own, nil)
                for room, times in zip(least_rooms(ring), list_of(low)):
                    self.assertEqual(times * len(direct_maps(room, room)), room.size)
                for room in least_rooms(ring):
                    self.assertTrue(all(not any(map(any, table_of(room, row))) for row in nil))

    def test_what_are_least_rooms(self):
        for prime in PRIMES:
            for ring in low_room_rings(prime) + fields_and_more(prime) + [Ring.stairs(prime, 3), S3]:
                right = least_rooms(ring)
                self.assertIs(are_least_rooms(ring, right[::-1]), True)
                self.assertIs(are_least_rooms(ring, tuple(rebased_by_chance(room, 3) for room in right)), True)
                again = Ring(ring.prime, ring.table)
                self.assertIs(are_least_rooms(ring, tuple(Room(again, room.tables) for room in right)), True)
                own, nothing = Room.own(ring), Room.nothing(ring)
                for value in junk() + [list(right), right[:-1], right + right[:1], right + (nothing,), (nothing,) * len(right), None,
                                       right[:-1] + (1,), (Room.side_by_side(right[0], right[0]),) + right[1:], right[0], ring,
                                       right[:-1] + (Room.own(Ring.full(2 if ring.prime > 2 else 3, 1)),)]:
                    self.assertIs(are_least_rooms(ring, value), False)
                if len(right) > 1:
                    self.assertIs(are_least_rooms(ring, right[:1] * len(right)), False)
                    self.assertIs(are_least_rooms(ring, (own,) + right[1:]), False)

    def test_least_rooms_of_other_making(self):
        """Quotients of the own room by greatest left ideals, and subrooms of the socle."""
        for prime in PRIMES:
            ring = Ring.full(prime, 2)
            own = Room.own(ring)
            for v in [row for row in rows_of(prime, 4) if any(row)][:20]:
                space = subroom_made(own, (v,))
                if len(space) == 2:
                    for room in (subroom(own, space), quotient_room(own, space)):
                        self.assertIs(are_least_rooms(ring, (room,)), True)
                else:
                    self.assertIs(are_least_rooms(ring, (subroom(own, space),)), False)


class ListTest(unittest.TestCase):
    def test_by_rows_of_subrooms(self):
        """[10.3]"""
        for prime in PRIMES:
            for ring in low_room_rings(prime) + [swap_ring(prime)]:
                least = least_rooms(ring)
                for room in rooms_of(ring, 4):
                    if prime ** room.size > 130:
                        continue
                    row = row_of_subrooms(room, all_subrooms(room))
                    counts = [0] * len(least)
                    for low, high in zip(row, row[1:]):
                        part = quotient_room(subroom(room, high), self.within(room, high, low))
                        counts[[are_alike(part, one) for one in least].index(True)] += 1
                    self.assertEqual(list_of(room), tuple(counts))

    def within(self, room, high, low):
        """A space, told in the base of a greater one."""
        leads = [row.index(1) for row in high]
        return tuple(tuple(row[at] for at in leads) for row in low)

    def test_sums(self):
        for prime in PRIMES:
            for ring in room_rings(prime) + fields_and_more(prime):
                sizes = [room.size for room in least_rooms(ring)]
                for room in rooms_of(ring, 12):
                    found = list_of(room)
                    self.assertEqual(sum(size * times for size, times in zip(sizes, found)), room.size)
                    for space in (made_by(room, 1, 1), made_by(room, 2, 2)):
                        low, high = list_of(subroom(room, space)), list_of(quotient_room(room, space))
                        self.assertEqual(found, tuple(a + b for a, b in zip(low, high)))
                    self.assertEqual(list_of(rebased_by_chance(room, 2)), found)
                for at, room in enumerate(least_rooms(ring)):
                    self.assertEqual(list_of(room), unit_rows(len(sizes))[at])

    def test_great(self):
        for prime in PRIMES:
            room = wide_room(prime)
            self.assertEqual(sum(list_of(room)), 40)
            self.assertEqual(list_of(Room.nothing(room.ring)), (0, 0))


class LayersTest(unittest.TestCase):
    def test_layers(self):
        """[10.5]"""
        for prime in PRIMES:
            for ring in room_rings(prime) + great_rings(prime)[::3] + [swap_ring(prime), twin_arrows(prime)]:
                nil = radical(ring)
                for room in rooms_of(ring, 9):
                    falling = [unit_rows(room.size)]
                    while falling[-1]:
                        falling.append(made_of(room, falling[-1], nil))
                    sizes = tuple(len(one) - len(other) for one, other in zip(falling, falling[1:]))
                    self.assertEqual(layers(room), sizes)
                    self.assertEqual(socle_layers(room), self.rising(room, nil))
                    self.assertEqual([sum(socle_layers(room)), len(socle_layers(room))], [sum(sizes), len(sizes)])

    def rising(self, room, nil):
        """The socle layers, each socle being taken by itself."""
        sizes = []
        while room.size:
            rows = tuple(tuple(number for j in nil for number in led(room, j, unit)) for unit in unit_rows(room.size))
            socle = kernel(room.ring.prime, rows) if nil else unit_rows(room.size)
            sizes.append(len(socle))
            room = quotient_room(room, socle)
        return tuple(sizes)

    def test_the_socle_is_the_sum_of_least_subrooms(self):
        for prime in PRIMES:
            for ring in low_room_rings(prime):
                for room in rooms_of(ring, 4):
                    if 0 < prime ** room.size <= 130 and room.size:
                        least = [space for space in all_subrooms(room) if space and is_least(subroom(room, space))]
                        socle = space_of(prime, room.size, tuple(row for space in least for row in space)[:200])
                        self.assertEqual(socle_layers(room)[0], len(socle))

    def test_wide(self):
        for prime in PRIMES:
            room = wide_room(prime)
            self.assertEqual([sum(layers(room)), sum(socle_layers(room)), len(layers(room))], [40, 40, 2])
            ring = low_ring(prime, 9)
            self.assertEqual([layers(Room.own(ring)), socle_layers(Room.own(ring))], [(1, 8), (8, 1)])
            line = Room.own(Ring.of_poly(prime, (0,) * 9 + (1,)))
            self.assertEqual([layers(line), socle_layers(line)], [(1,) * 9, (1,) * 9])
            self.assertEqual([layers(Room.own(Ring.full(prime, 3))), layers(Room.nothing(ring)), socle_layers(Room.nothing(ring))],
                             [(9,), (), ()])


class NotTrueTest(unittest.TestCase):
    """[10.6]"""

    def test_equal_lists_make_rooms_alike(self):
        for prime in PRIMES:
            ring = Ring.of_poly(prime, (0, 0, 1))
            one, other = Room.own(ring), Room.side_by_side(least_rooms(ring)[0], least_rooms(ring)[0])
            self.assertEqual([list_of(one), are_alike(one, other)], [list_of(other), False])

    def test_layers_and_socle_layers_are_equal(self):
        for prime in PRIMES:
            room = Room.own(low_ring(prime, 3))
            self.assertEqual([layers(room), socle_layers(room)], [(1, 2), (2, 1)])

    def test_self_maps_that_are_a_field(self):
        for prime in PRIMES:
            ring = Ring.stairs(prime, 2)
            own = Room.own(ring)
            room = subroom(own, subroom_made(own, ((0, 0, 1),)))
            self.assertEqual([room.size, direct_maps(room, room), room_paper(room)[0]], [2, ((1, 0, 0, 1),), "subroom"])

    def test_a_room_made_by_one_vector(self):
        for prime in PRIMES:
            room = Room.own(Ring.stairs(prime, 2))
            self.assertEqual([len(subroom_made(room, ((1, 0, 1),))), room_paper(room)[0]], [3, "subroom"])

    def test_the_rings_of_the_examples(self):
        told = [sorted((room.size, len(direct_maps(room, room))) for room in least_rooms(ring)) for ring in (F2, U3, K9, S3, C4, N4)]
        self.assertEqual(told, [[(2, 1)], [(1, 1)] * 3, [(2, 2)], [(1, 1), (2, 1)], [(1, 1)], [(1, 1)]])
        self.assertEqual(len(least_rooms(full_over(5, first_irreducible(5, 2), 2))), 1)
        self.assertEqual(room_killers(least_rooms(N4)[0]), radical(N4))


if __name__ == "__main__":
    unittest.main()
