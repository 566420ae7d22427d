"""Free rooms, heads and covers [12.1] to [12.6]."""

import itertools
import unittest

from tablerings.base.spaces import kernel, space_of, space_sum
from tablerings.errors import InvalidNumber, TooMany
from tablerings.rings.idempotents import central_parting, parting
from tablerings.rings.radical import radical
from tablerings.rings.rings import Ring, opposite
from tablerings.rooms.free import (
    blocks_of_rooms, cartan, cover, free_rooms, free_sum, head_numbers, is_cover,
)
from tablerings.rooms.least import least_rooms, list_of
from tablerings.rooms.maps import alike_map, map_number, maps
from tablerings.rooms.rooms import Room, quotient_room, room_killers, subroom
from tests.room_samples import (
    combined, direct_maps, fields_and_more, followed, is_direct_map, led, low_room_rings, made_by, room_rings, rooms_of,
    swap_ring, table_of, tables_of, twin_arrows, unit_rows,
)
from tests.samples import C4, F2, K9, N4, PRIMES, S3, U3, great_rings, junk, low_ring, rows_of, sums_of, turned
from tests.test_rooms import wide_room


def self_number(room):
    """The dimension of the self maps of a room."""
    return len(direct_maps(room, room))


def nil_part(room):
    """The subroom of all sums of what members of J make of vectors."""
    found = tuple(led(room, j, unit) for j in radical(room.ring) for unit in unit_rows(room.size))
    return space_of(room.ring.prime, room.size, found[:200]) if room.size else ()


def head(room):
    """The quotient of a room by what J leads it to."""
    return quotient_room(room, nil_part(room))


def is_cover_by_words(room, numbers, table):
    """Whether a table leads the free sum of the head numbers onto a room as a map."""
    if numbers != list_of(head(room)):
        return False
    whole = free_sum(room.ring, numbers)
    if not is_direct_map(whole, room, table):
        return False
    return len(space_of(room.ring.prime, room.size, table)) == room.size if table and room.size else room.size == 0


def determinant(rows):
    """The determinant of a table of integers."""
    if not rows:
        return 1
    return sum((-1) ** at * number * determinant([row[:at] + row[at + 1:] for row in rows[1:]])
               for at, number in enumerate(rows[0]))


def all_rings_here(prime):
    """Rings of many kinds over a prime."""
    rings = room_rings(prime) + fields_and_more(prime) + [swap_ring(prime), twin_arrows(prime)]
    return rings + turned([swap_ring(prime)], prime)


class FreeRoomsTest(unittest.TestCase):
    def test_free_rooms(self):
        """[12.1]"""
        for prime in PRIMES:
            for ring in all_rings_here(prime) + great_rings(prime):
                found, least = free_rooms(ring), least_rooms(ring)
                self.assertEqual(len(found), len(least))
                self.assertEqual(free_rooms(Ring(prime, ring.table)), found)
                for room, point in zip(found, least):
                    self.assertEqual(Room(ring, room.tables), room)
                    self.assertTrue(1 <= room.size <= 9)
                    self.assertIsNotNone(alike_map(head(room), point))
                self.check_own(ring, found, least)

    def check_own(self, ring, found, least):
        """The ring over itself is the sum of its free rooms, each as often as is told."""
        numbers = tuple(point.size // self_number(point) for point in least)
        whole = free_sum(ring, numbers)
        self.assertEqual(whole.size, ring.size)
        self.assertIsNotNone(alike_map(whole, Room.own(ring)))
        self.assertEqual(head_numbers(Room.own(ring)), numbers)

    def test_rooms_of_idempotents(self):
        for prime in PRIMES:
            for ring in all_rings_here(prime):
                own, found = Room.own(ring), free_rooms(ring)
                for e in parting(ring):
                    space = space_of(prime, ring.size, tuple(ring.product(unit, e) for unit in unit_rows(ring.size)))
                    room = subroom(own, space)
                    alike = [alike_map(room, one) is not None for one in found]
                    self.assertEqual(sum(alike), 1)
                    self.assertEqual(alike, [alike_map(head(room), point) is not None for point in least_rooms(ring)])

    def test_maps_from_free_rooms(self):
        """[12.2]"""
        for prime in PRIMES:
            for ring in all_rings_here(prime)[::2]:
                degrees = [self_number(point) for point in least_rooms(ring)]
                for room in rooms_of(ring, 9):
                    numbers = [map_number(one, room) for one in free_rooms(ring)]
                    self.assertEqual(numbers, [d * times for d, times in zip(degrees, list_of(room))])

    def test_maps_are_led_on(self):
        for prime in PRIMES:
            for ring in low_room_rings(prime) + [swap_ring(prime)]:
                for room in rooms_of(ring, 5):
                    if room.size == 0:
                        continue
                    space = made_by(room, 1, 5)
                    low = quotient_room(room, space)
                    if low.size == 0:
                        continue
                    onto = next(t for t in [tuple(quotient_rows(room, space))] if is_direct_map(room, low, t))
                    for one in free_rooms(ring):
                        ahead = tables_of(one, room, maps(one, room))
                        made = {sum(followed(prime, low.size, f, onto), ()) for f in ahead}
                        self.assertEqual(space_of(prime, one.size * low.size, tuple(made)) if made else (), maps(one, low))

    def test_free_sums(self):
        for prime in PRIMES:
            for ring in low_room_rings(prime) + [S3]:
                found = free_rooms(ring)
                for numbers in itertools.product(range(3), repeat=len(found)):
                    pieces = [room for room, number in zip(found, numbers) for _ in range(number)]
                    goal = Room.nothing(ring)
                    for piece in pieces:
                        goal = Room.side_by_side(goal, piece)
                    self.assertEqual(free_sum(ring, numbers), goal)
                    self.assertEqual(head_numbers(goal), numbers)

    def test_numbers(self):
        for prime in PRIMES:
            ring = Ring.of_poly(prime, (0, 0, 0, 0, 1))
            self.assertEqual([free_sum(ring, (10,)).size, free_sum(ring, (0,))], [40, Room.nothing(ring)])
            for number in (11, 10 ** 60 - 1):
                with self.assertRaises(TooMany) as caught:
                    free_sum(ring, (number,))
                self.assertEqual(caught.exception.most, 40)
            for wrong in (10 ** 60, (), (1, 1), (-1,), (10 ** 60,), (-10 ** 60,), [1], 1, None, (True,), ("1",), (None,), ((1,),), (False,)):
                with self.assertRaises(InvalidNumber) as caught:
                    free_sum(ring, wrong)
                self.assertIs(caught.exception.given, wrong)


def quotient_rows(room, space):
    """The rows of the classes of the base vectors in the quotient by a subroom."""
    leads = [row.index(1) for row in space]
    free = [at for at in range(room.size) if at not in leads]
    for unit in unit_rows(room.size):
        rest = combined(room.ring.prime, room.size, [1] + [-unit[at] for at in leads], (unit,) + space)
        yield tuple(rest[at] for at in free)


class CoverTest(unittest.TestCase):
    def test_any_cover(self):
        """[12.3]"""
        for prime in PRIMES:
            for ring in all_rings_here(prime):
                for room in rooms_of(ring, 9)[::2]:
                    numbers, table = cover(room)
                    self.assertEqual(numbers, head_numbers(room))
                    self.assertTrue(is_cover_by_words(room, numbers, table))
                    self.assertIs(is_cover(room, (numbers, table)), True)
                    whole = free_sum(ring, numbers)
                    self.assertEqual(len(table), whole.size)
                    if room.size:
                        gone, low = kernel(prime, table), nil_part(whole)
                        self.assertEqual(space_sum(prime, whole.size, gone, low), low)
                    if whole.size <= 12 and room.size == whole.size:
                        self.assertIsNotNone(alike_map(whole, room))
                    self.check_other_covers(room, whole, numbers, table)

    def check_other_covers(self, room, whole, numbers, table):
        """Covers that self maps of the room or the free sum make of one, and what is right next to a cover."""
        prime = room.ring.prime
        if room.size == 0 or room.size > 6:
            return
        for f in tables_of(room, room, maps(room, room)):
            made = followed(prime, room.size, table, f)
            self.assertIs(is_cover(room, (numbers, made)), len(space_of(prime, room.size, f)) == room.size)
        changed = ((table[0][0] + 1) % prime,) + table[0][1:]
        value = (numbers, (changed,) + table[1:])
        self.assertIs(is_cover(room, value), is_cover_by_words(room, *value))
        more = tuple(number + 1 for number in numbers)
        for value in ((more, table), (numbers, table[1:]), (numbers, table + table[:1]), [numbers, table], (numbers, list(table)),
                      (list(numbers), table), (numbers,), (numbers, table, 1), (numbers, ((0,) * room.size,) * whole.size),
                      (tuple(bool(number) for number in numbers), table), (numbers, tuple(list(row) for row in table)),
                      (numbers, tuple(tuple(map(bool, row)) for row in table)), (numbers, tuple(row + (0,) for row in table)),
                      (numbers, ((10 ** 5000,) * room.size,) + table[1:]), ((10 ** 5000,) * len(numbers), table)):
            self.assertIs(is_cover(room, value), False)

    def test_all_tables_of_small_rooms(self):
        for prime in PRIMES:
            for ring in low_room_rings(prime)[::2]:
                for room in rooms_of(ring, 2)[:4]:
                    numbers = head_numbers(room)
                    whole = free_sum(ring, numbers)
                    if prime ** (room.size * whole.size) <= 2500:
                        for table in itertools.product(rows_of(prime, room.size), repeat=whole.size):
                            self.assertIs(is_cover(room, (numbers, table)), is_cover_by_words(room, numbers, table))

    def test_covers_by_free_rooms_alone(self):
        """No sum of fewer free rooms is led onto the room; the room is a free sum exactly if the sizes are equal."""
        for prime in PRIMES:
            for ring in low_room_rings(prime) + [swap_ring(prime)]:
                for room in rooms_of(ring, 4):
                    numbers = head_numbers(room)
                    self.assertEqual(numbers, list_of(head(room)))
                    for at, number in enumerate(numbers):
                        if number:
                            fewer = free_sum(ring, numbers[:at] + (number - 1,) + numbers[at + 1:])
                            self.check_none_onto(fewer, room)
                    whole = free_sum(ring, numbers)
                    if whole.size <= 12:
                        self.assertEqual(alike_map(whole, room) is not None, whole.size == room.size)

    def check_none_onto(self, one, other):
        """No map leads the one room onto the other one, by trial of all if there are not too many."""
        prime, space = one.ring.prime, direct_maps(one, other)
        if prime ** len(space) <= 700 and one.size:
            for row in sums_of(prime, one.size * other.size, space):
                table = tables_of(one, other, [row])[0]
                self.assertLess(len(space_of(prime, other.size, table)), other.size)

    def test_sums(self):
        for prime in PRIMES:
            for ring in low_room_rings(prime):
                rooms = rooms_of(ring, 6)
                for one, other in itertools.product(rooms[:4], rooms[-3:]):
                    both = Room.side_by_side(one, other)
                    self.assertEqual(head_numbers(both), tuple(a + b for a, b in zip(head_numbers(one), head_numbers(other))))

    def test_wide(self):
        for prime in PRIMES:
            room = wide_room(prime)
            if sum(number * one.size for number, one in zip(head_numbers(room), free_rooms(room.ring))) <= 40:
                self.assertIs(is_cover(room, cover(room)), True)
            ring = low_ring(prime, 9)
            point = least_rooms(ring)[0]
            four = free_sum(ring, (4,))
            self.assertIs(is_cover(four, cover(four)), True)
            self.assertEqual([four.size, head_numbers(four)], [36, (4,)])
            many = point
            for _ in range(4):
                many = Room.side_by_side(many, point)
            with self.assertRaises(TooMany) as caught:
                cover(many)
            self.assertEqual([caught.exception.most, head_numbers(many)], [40, (5,)])
            self.assertIs(is_cover(many, ((5,), ())), False)
            three = subroom(many, made_by(many, 3, 1))
            self.assertEqual(len(cover(three)[1]), 9 * three.size)

    def test_nothing(self):
        for prime in PRIMES:
            for ring in (Ring.stairs(prime, 3), Ring.full(prime, 1)):
                nothing, none = Room.nothing(ring), (0,) * len(least_rooms(ring))
                self.assertEqual([head_numbers(nothing), cover(nothing)], [none, (none, ())])
                self.assertEqual([is_cover(nothing, (none, ())), is_cover(nothing, (none, ((),))), is_cover(nothing, ())], [True, False, False])

    def test_what_is_judged(self):
        for room in (Room.own(F2), Room.own(K9), Room.nothing(N4), Room.own(U3)):
            right = cover(room)
            for value in junk():
                self.assertIs(is_cover(room, value), False)
                self.assertIs(is_cover(room, (right[0], value)), value == right[1] and isinstance(value, tuple))
                self.assertIs(is_cover(room, (value, right[1])), False)


class CountsTest(unittest.TestCase):
    def test_cartan(self):
        """[12.4]"""
        for prime in PRIMES:
            for ring in all_rings_here(prime) + great_rings(prime) + turned(great_rings(prime)[::3], 6):
                found, free = cartan(ring), free_rooms(ring)
                degrees = [self_number(point) for point in least_rooms(ring)]
                count = len(free)
                self.assertEqual([len(found)] + [len(row) for row in found], [count] * (count + 1))
                for i, j in itertools.product(range(count), repeat=2):
                    self.assertEqual(found[i][j], list_of(free[j])[i])
                    self.assertEqual(map_number(free[i], free[j]), degrees[i] * found[i][j])
                self.assertTrue(all(found[i][i] >= 1 for i in range(count)))
                self.assertEqual(found == unit_rows(count), radical(ring) == ())

    def test_rings_of_moves(self):
        for prime in PRIMES:
            rings = [Ring.of_moves(prime, moves) for moves in (
                ((1, 0, 2), (1, 2, 0)), ((1, 2, 3, 0),), ((1, 2, 0),), ((1, 2, 3, 0), (3, 2, 1, 0)), ((1, 2, 3, 4, 5, 6, 7, 0),),
                ((1, 2, 0, 3, 4, 5), (0, 1, 2, 4, 5, 3)), ((1, 2, 3, 0, 5, 6, 7, 4), (4, 7, 6, 5, 2, 1, 0, 3)))]
            for ring in rings + turned(rings, 4):
                found = cartan(ring)
                degrees = [self_number(point) for point in least_rooms(ring)]
                for i, j in itertools.product(range(len(found)), repeat=2):
                    self.assertEqual(degrees[i] * found[i][j], degrees[j] * found[j][i])
                number = determinant(found)
                while number % prime == 0:
                    number //= prime
                self.assertEqual(number, 1)

    def test_blocks(self):
        """[12.5]"""
        for prime in PRIMES:
            for ring in all_rings_here(prime) + great_rings(prime) + turned(great_rings(prime)[::3], 6):
                found, table = blocks_of_rooms(ring), cartan(ring)
                self.assertEqual(list(found), sorted(found))
                self.assertEqual(sorted(at for block in found for at in block), list(range(len(table))))
                self.assertTrue(all(list(block) == sorted(block) for block in found))
                self.assertEqual(sorted(found), sorted(hanging(table)))
                self.check_central(ring, found)
                self.assertEqual(len(blocks_of_rooms(opposite(ring))), len(found))

    def check_central(self, ring, blocks):
        """Each idempotent of the central parting is the one on the free rooms of one block, and 0 on the others."""
        free, seen = free_rooms(ring), []
        for c in central_parting(ring):
            tables = [table_of(room, c) for room in free]
            ones = tuple(at for at, room in enumerate(free) if tables[at] == unit_rows(room.size))
            self.assertTrue(all(at in ones or not any(map(any, table)) for at, table in enumerate(tables)))
            seen.append(ones)
        self.assertEqual(sorted(seen), list(blocks))

    def test_several_blocks(self):
        for prime in PRIMES:
            ring = Ring.both(Ring.both(Ring.stairs(prime, 2), Ring.of_poly(prime, (0, 0, 1))), Ring.stairs(prime, 2))
            for one in [ring] + turned([ring], 2):
                self.assertEqual(sorted(len(block) for block in blocks_of_rooms(one)), [1, 2, 2])


def hanging(table):
    """The lots of indices that hang together by entries other than 0."""
    left, lots = set(range(len(table))), []
    while left:
        lot, fresh = set(), {min(left)}
        while fresh:
            lot |= fresh
            fresh = {j for i in lot for j in left if table[i][j] or table[j][i]} - lot
        left -= lot
        lots.append(tuple(sorted(lot)))
    return lots


class NotTrueTest(unittest.TestCase):
    """[12.6]"""

    def test_both_sides_of_the_diagonal(self):
        for prime in PRIMES:
            found = cartan(Ring.stairs(prime, 3))
            self.assertNotEqual(found, tuple(zip(*found)))

    def test_equal_head_numbers_and_sizes(self):
        for prime in PRIMES:
            line = max(free_rooms(twin_arrows(prime)), key=lambda room: room.size)
            inside = nil_part(line)
            one = quotient_room(line, (inside[0],))
            other = quotient_room(line, (inside[1],))
            self.assertEqual([one.size, head_numbers(one)], [other.size, head_numbers(other)])
            self.assertIsNone(alike_map(one, other))

    def test_the_determinant(self):
        for prime in PRIMES:
            found = cartan(swap_ring(prime))
            self.assertEqual([found, determinant(found)], [((1, 1), (1, 1)), 0])

    def test_killers_make_no_free_sum(self):
        for prime in PRIMES:
            ring = Ring.stairs(prime, 2)
            room = [point for point in least_rooms(ring) if len(cover(point)[1]) > 1][0]
            self.assertEqual(room_killers(head(room)), room_killers(room))
            self.assertNotEqual(free_sum(ring, head_numbers(room)).size, room.size)

    def test_the_rings_of_the_examples(self):
        self.assertEqual([len(blocks_of_rooms(ring)) for ring in (F2, K9, S3, U3, C4, N4)], [1, 1, 2, 1, 1, 1])


if __name__ == "__main__":
    unittest.main()
