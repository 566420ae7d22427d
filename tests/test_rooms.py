"""Rooms [9.1] to [9.6]."""

import itertools
import random
import unittest

from tablerings.base.spaces import space_meet, space_of, space_sum
from tablerings.errors import InvalidOperation, InvalidRoom, InvalidSpace, InvalidTable, Refused, TooMany
from tablerings.rings.ideals import is_ideal
from tablerings.rings.rings import Ring, opposite
from tablerings.rooms.rooms import (
    Room, is_subroom, quotient_room, rebased_room, room_killers, subroom, subroom_made, turned_room, vector_killers,
)
from tests.room_samples import (
    all_subrooms, combined, followed, is_direct_map, is_room, led, low_room_rings, made_by, rebased_by_chance, room_rings,
    rooms_of, swap_ring, table_of, unit_rows, vectors_in, vectors_of,
)
from tests.samples import C4, F2, K9, N4, PRIMES, U3, chance_table, great_rings, junk, rows_of, some_rows, sums_of, turned
from tests.test_split import all_spaces


def wide_room(prime):
    """A room of size 40, told by other base vectors."""
    ring = Ring.stairs(prime, 2)
    room = Room.own(ring)
    for _ in range(12):
        room = Room.side_by_side(room, Room.own(ring))
    room = Room.side_by_side(room, quotient_room(Room.own(ring), subroom_made(Room.own(ring), ((1, 0, 0), (0, 1, 0)))))
    return rebased_by_chance(room, prime)


def first_fault(ring, tables):
    """What bars tables from being a room, by the document's words."""
    size = len(tables[0])
    for i, j in itertools.product(range(ring.size), repeat=2):
        goal = tuple(tuple(sum(ring.table[i][j][k] * tables[k][r][c] for k in range(ring.size)) % ring.prime
                           for c in range(size)) for r in range(size))
        if followed(ring.prime, size, tables[j], tables[i]) != goal:
            return ("product", i, j)
    one = tuple(tuple(sum(ring.one[k] * tables[k][r][c] for k in range(ring.size)) % ring.prime for c in range(size))
                for r in range(size))
    return None if one == unit_rows(size) else ("one",)


class ClassTest(unittest.TestCase):
    def check_tables(self, ring, tables):
        fault = first_fault(ring, tables)
        if fault is None:
            room = Room(ring, tables)
            self.assertEqual([room.ring, room.tables, room.size], [ring, tables, len(tables[0])])
            return True
        with self.assertRaises(Refused) as caught:
            Room(ring, tables)
        self.assertEqual(caught.exception.reason, fault)
        return False

    def test_all_tables_of_small_rooms(self):
        """[9.1]"""
        seen = 0
        for prime, ring, size in [
                (2, Ring.of_poly(2, (0, 0, 1)), 2), (2, Ring.both(Ring.full(2, 1), Ring.full(2, 1)), 2), (2, Ring.full(2, 1), 3),
                (2, Ring.stairs(2, 2), 1), (3, Ring.of_poly(3, (0, 0, 1)), 1), (3, Ring.full(3, 1), 2), (5, Ring.full(5, 1), 2),
                (7, Ring.of_poly(7, (0, 6, 1)), 1), (5, Ring.stairs(5, 2), 1), (2, Ring.of_poly(2, (1, 1, 1)), 2)]:
            for one in [ring] + turned([ring], 5):
                tables = list(itertools.product(rows_of(prime, size), repeat=size))
                for some in itertools.product(tables, repeat=ring.size):
                    seen += self.check_tables(one, some)
        self.assertGreater(seen, 30)

    def test_changed_rooms(self):
        for prime in PRIMES:
            for ring in low_room_rings(prime):
                for room in rooms_of(ring, 4):
                    self.check_tables(ring, room.tables)
                    tables = [[list(row) for row in table] for table in room.tables]
                    for at in itertools.islice(itertools.product(range(ring.size), range(room.size), range(room.size)), 0, None, 5):
                        tables[at[0]][at[1]][at[2]] = (tables[at[0]][at[1]][at[2]] + 1) % prime
                        self.check_tables(ring, tuple(tuple(tuple(row) for row in table) for table in tables))

    def test_properties(self):
        for prime in PRIMES:
            for ring in room_rings(prime):
                for room in rooms_of(ring, 12):
                    self.assertTrue(is_room(room))
                    self.assertEqual(Room(ring, room.tables), room)
                    self.assertEqual([room.ring, len(room.tables)], [ring, ring.size])
                    self.assertEqual({len(table) for table in room.tables}, {room.size})
                    self.assertEqual(str(room), f"room of {room.size} vectors over a ring of size {ring.size} modulo {prime}")
                    self.assertRaises(TypeError, iter, room)

    def test_led_by(self):
        for prime in PRIMES:
            for ring in room_rings(prime)[::2]:
                for room in rooms_of(ring, 9):
                    members, vectors = some_rows(prime, ring.size, 3, 1), some_rows(prime, room.size, 3, 2)
                    for a, v in itertools.product(members, vectors):
                        self.assertEqual(room.led_by(a, v), led(room, a, v))
                    for a, b in itertools.product(members, repeat=2):
                        self.assertEqual(room.led_by(ring.product(a, b), vectors[0]), room.led_by(a, room.led_by(b, vectors[0])))
                    self.assertEqual(room.led_by(ring.one, vectors[1]), vectors[1])

    def test_own_and_nothing(self):
        for prime in PRIMES:
            for ring in room_rings(prime) + great_rings(prime):
                own, nothing = Room.own(ring), Room.nothing(ring)
                self.assertEqual([own.size, own.tables], [ring.size, ring.table])
                for a, b in zip(some_rows(prime, ring.size, 3, 3), some_rows(prime, ring.size, 3, 4)):
                    self.assertEqual(own.led_by(a, b), ring.product(a, b))
                self.assertEqual([nothing.size, nothing.tables, nothing.led_by(ring.one, ())], [0, ((),) * ring.size, ()])
                self.assertEqual(Room(ring, ((),) * ring.size), nothing)

    def test_side_by_side(self):
        for prime in PRIMES:
            for ring in low_room_rings(prime):
                rooms = rooms_of(ring, 6)
                for one, other in itertools.product(rooms[::2], rooms[1::2]):
                    both = Room.side_by_side(one, other)
                    self.assertTrue(is_room(both))
                    self.assertEqual(both.size, one.size + other.size)
                    for a, v, w in zip(some_rows(prime, ring.size, 2, 1), some_rows(prime, one.size, 2, 2), some_rows(prime, other.size, 2, 3)):
                        self.assertEqual(both.led_by(a, v + w), one.led_by(a, v) + other.led_by(a, w))
                    self.assertEqual(Room.side_by_side(both, Room.nothing(ring)), both)
                    self.assertEqual(Room.side_by_side(Room.nothing(ring), both), both)

    def test_the_greatest_size(self):
        for prime in PRIMES:
            room = wide_room(prime)
            self.assertEqual([room.size, Room(room.ring, room.tables) == room], [40, True])
            self.assertEqual(Room.side_by_side(room, Room.nothing(room.ring)), room)
            for further in (subroom(room, subroom_made(room, (unit_rows(40)[0],))), room):
                with self.assertRaises(TooMany) as caught:
                    Room.side_by_side(room, further)
                self.assertEqual(caught.exception.most, 40)
            ring = Ring.full(prime, 1)
            self.assertEqual(Room(ring, (unit_rows(40),)).size, 40)
            self.assertRaises(InvalidRoom, Room, ring, (unit_rows(41),))
            other = Room(Ring.full(5 if prime < 5 else 3, 1), (unit_rows(40),))
            self.assertRaises(InvalidOperation, Room.side_by_side, Room(ring, (unit_rows(40),)), other)

    def test_equal(self):
        one, same = Room.own(N4), Room(Ring.of_poly(3, (0, 0, 0, 0, 1)), N4.table)
        self.assertTrue(one == same and not one != same)
        for value in junk() + [Room.own(C4), Room.nothing(N4), turned_room(rebased_by_chance(one, 1)), N4, N4.table]:
            self.assertTrue(one != value and not one == value)
        self.assertNotEqual(Room.nothing(N4), Room.nothing(C4))
        self.assertNotEqual(Room.nothing(N4), Room.nothing(Ring.of_poly(3, (1, 0, 0, 0, 1))))


class SubroomTest(unittest.TestCase):
    def test_all_spaces(self):
        """[9.2]"""
        for prime in PRIMES:
            for ring in low_room_rings(prime) + [swap_ring(prime)]:
                for room in rooms_of(ring, 4):
                    if prime ** room.size > 130:
                        continue
                    right = all_subrooms(room)
                    for count in range(room.size + 1):
                        for space in all_spaces(prime, room.size, count):
                            self.assertIs(is_subroom(room, space), space in right)

    def test_made(self):
        for prime in PRIMES:
            for ring in low_room_rings(prime):
                for room in rooms_of(ring, 4):
                    if prime ** room.size > 130:
                        continue
                    right = all_subrooms(room)
                    for some in [(), ((0,) * room.size,)] + [tuple(some_rows(prime, room.size, count, 6)) for count in (1, 1, 2, 9)]:
                        found = subroom_made(room, some)
                        having = [space for space in right if set(some) <= vectors_in(room, space)]
                        self.assertEqual(found, min(having, key=len))
                        self.assertTrue(all(vectors_in(room, found) <= vectors_in(room, space) for space in having))

    def test_what_is_made_of_great_rooms(self):
        for prime in PRIMES:
            for room in [wide_room(prime)] + [Room.own(ring) for ring in great_rings(prime)]:
                ring = room.ring
                some = tuple(some_rows(prime, room.size, 3, 8))
                found = subroom_made(room, some)
                products = tuple(led(room, unit, v) for unit in unit_rows(ring.size) for v in some)
                self.assertEqual(found, space_of(prime, room.size, products))
                self.assertIs(is_subroom(room, found), True)
                self.assertEqual(subroom_made(room, some * 33), found)
                self.assertEqual(subroom_made(room, found), found)

    def test_sums_and_meets(self):
        for prime in PRIMES:
            for ring in room_rings(prime):
                for room in rooms_of(ring, 9):
                    if room.size:
                        one, other = made_by(room, 1, 3), made_by(room, 1, 4)
                        for space in (space_sum(prime, room.size, one, other), space_meet(prime, room.size, one, other)):
                            self.assertIs(is_subroom(room, space), True)

    def test_what_is_judged(self):
        for room in (Room.own(F2), Room.nothing(K9), Room.own(N4), wide_room(7)):
            whole = unit_rows(room.size)
            for value in junk() + [list(whole), whole[::-1] if room.size > 1 else None, ((True,) + (0,) * (room.size - 1),),
                                   ((0,) * room.size,), ((10 ** 5000,) * room.size,), ((1,) * 41,), whole + whole[:1] if whole else 1]:
                self.assertIs(is_subroom(room, value), value == () and isinstance(value, tuple))
            self.assertIs(is_subroom(room, whole), True)


class QuotientTest(unittest.TestCase):
    def test_subrooms_and_quotients(self):
        """[9.3]"""
        for prime in PRIMES:
            for ring in room_rings(prime):
                for room in rooms_of(ring, 9):
                    for space in ((), unit_rows(room.size), made_by(room, 1, 1), made_by(room, 2, 2)):
                        self.check(room, space)

    def check(self, room, space):
        prime = room.ring.prime
        low, high = subroom(room, space), quotient_room(room, space)
        self.assertTrue(is_room(low) and is_room(high))
        self.assertEqual([low.ring, high.ring, low.size + high.size], [room.ring, room.ring, room.size])
        # The base rows are led into the room as they are told, and the room onto the quotient by the classes.
        self.assertTrue(is_direct_map(low, room, space))
        leads = [row.index(1) for row in space]
        free = [at for at in range(room.size) if at not in leads]
        classes = []
        for unit in unit_rows(room.size):
            rest = combined(prime, room.size, [1] + [-unit[at] for at in leads], (unit,) + space)
            self.assertFalse(any(rest[at] for at in leads))
            classes.append(tuple(rest[at] for at in free))
        self.assertTrue(is_direct_map(room, high, tuple(classes)))
        self.assertEqual([classes[at] for at in free], list(unit_rows(high.size)))

    def test_wide(self):
        for prime in PRIMES:
            room = wide_room(prime)
            space = made_by(room, 3, 1)
            self.assertEqual(subroom(room, space).size + quotient_room(room, space).size, 40)
            self.check(room, space)

    def test_no_subrooms(self):
        for prime in PRIMES:
            room = Room.own(Ring.stairs(prime, 2))
            for space in (((0, 0, 1),), ((1, 0, 1),), [], None, ((0, 1),), ((0, 0, 0),), ((0, 2, 0),), ((0, 1, 0), (0, 1, 0))):
                self.assertRaises(InvalidSpace, subroom, room, space)
                self.assertRaises(InvalidSpace, quotient_room, room, space)
            self.assertEqual(quotient_room(room, ((0, 1, 0),)).size, 2)
            self.assertEqual(subroom(room, ()), Room.nothing(room.ring))
            self.assertEqual([subroom(room, unit_rows(3)), quotient_room(room, ())], [room, room])


class TurnedTest(unittest.TestCase):
    def test_turned(self):
        """[9.4]"""
        for prime in PRIMES:
            for ring in room_rings(prime):
                for room in rooms_of(ring, 9):
                    found = turned_room(room)
                    self.assertEqual([found.ring, found.size], [opposite(ring), room.size])
                    self.assertEqual(Room(opposite(ring), found.tables), found)
                    for table, other in zip(room.tables, found.tables):
                        self.assertEqual(other, tuple(tuple(row[at] for row in table) for at in range(room.size)))
                    self.assertEqual(turned_room(found), room)

    def test_subrooms_go_over(self):
        for prime in PRIMES:
            for ring in low_room_rings(prime):
                for room in rooms_of(ring, 4):
                    if prime ** room.size > 60:
                        continue
                    found = turned_room(room)
                    for count in range(room.size + 1):
                        for space in all_spaces(prime, room.size, count):
                            rows = [f for f in vectors_of(room) if not any(
                                sum(a * b for a, b in zip(f, u)) % prime for u in space)]
                            self.assertIs(is_subroom(found, space_of(prime, room.size, tuple(rows)[:200]) if room.size else ()),
                                          is_subroom(room, space))

    def test_wide(self):
        for prime in PRIMES:
            room = wide_room(prime)
            self.assertEqual(turned_room(turned_room(room)), room)
            self.assertEqual(Room(opposite(room.ring), turned_room(room).tables), turned_room(room))


class RebasedTest(unittest.TestCase):
    def test_rebased(self):
        for prime in PRIMES:
            for ring in room_rings(prime)[::2]:
                for room in rooms_of(ring, 9):
                    table = chance_table(prime, room.size, random.Random(room.size))
                    found = rebased_room(room, table)
                    self.assertTrue(is_room(found))
                    self.assertTrue(is_direct_map(found, room, table))
                    self.assertEqual(rebased_room(room, unit_rows(room.size)), room)

    def test_wrong_tables(self):
        for prime in PRIMES:
            room = Room.own(Ring.stairs(prime, 2))
            for table in ((), unit_rows(2), unit_rows(4), ((0, 0, 0),) * 3, ((1, 1, 0), (1, 1, 0), (0, 0, 1)), list(unit_rows(3)),
                          ((True, 0, 0), (0, 1, 0), (0, 0, 1)), ((1, 0, 0), (0, 1, 0), (0, 0, prime)), None, 1,
                          ((1, 0, 0), (0, 1, 0), (prime - 1, 1, 0))):
                self.assertRaises(InvalidTable, rebased_room, room, table)
            nothing = Room.nothing(room.ring)
            self.assertEqual(rebased_room(nothing, ()), nothing)
            for table in (((),), ((0,),), [], None, ((1,),)):
                self.assertRaises(InvalidTable, rebased_room, nothing, table)


class KillersTest(unittest.TestCase):
    def test_by_trial(self):
        """[9.5]"""
        for prime in PRIMES:
            for ring in low_room_rings(prime):
                if ring.many > 130:
                    continue
                members = rows_of(prime, ring.size)
                for room in rooms_of(ring, 4):
                    vectors = some_rows(prime, room.size, 4, 1) + [(0,) * room.size]
                    right = {a for a in members if not any(map(any, table_of(room, a)))}
                    self.assertEqual(sums_of(prime, ring.size, room_killers(room)), right)
                    for v in vectors:
                        right = {a for a in members if not any(led(room, a, v))}
                        self.assertEqual(sums_of(prime, ring.size, vector_killers(room, v)), right)

    def test_what_is_told_of_them(self):
        for prime in PRIMES:
            for ring in room_rings(prime) + great_rings(prime)[::3]:
                for room in rooms_of(ring, 12):
                    found = room_killers(room)
                    self.assertTrue(is_ideal(ring, found))
                    for row in found:
                        self.assertFalse(any(map(any, table_of(room, row))))
                    for v in some_rows(prime, room.size, 2, 1):
                        some = vector_killers(room, v)
                        self.assertTrue(is_ideal(ring, some, side="left"))
                        self.assertFalse(any(any(led(room, row, v)) for row in some))
                        self.assertEqual(len(some) + len(subroom_made(room, (v,))), ring.size)
                self.assertEqual([room_killers(Room.own(ring)), room_killers(Room.nothing(ring))], [(), unit_rows(ring.size)])
                self.assertEqual(vector_killers(Room.nothing(ring), ()), unit_rows(ring.size))

    def test_wide(self):
        for prime in PRIMES:
            room = wide_room(prime)
            self.assertEqual(room_killers(room), ())
            v = (1,) + (0,) * 39
            self.assertEqual(len(vector_killers(room, v)) + len(subroom_made(room, (v,))), 3)


class NotTrueTest(unittest.TestCase):
    """[9.6]"""

    def test_each_space_within_a_subroom(self):
        for prime in PRIMES:
            room = Room.own(Ring.full(prime, 2))
            self.assertTrue(is_subroom(room, ((1, 0, 0, 0), (0, 0, 1, 0))))
            self.assertFalse(is_subroom(room, ((1, 0, 0, 0),)))

    def test_each_subroom_has_another_one_beside_it(self):
        for prime in PRIMES:
            room = Room.own(Ring.of_poly(prime, (0, 0, 1)))
            self.assertTrue(is_subroom(room, ((0, 1),)))
            self.assertEqual(all_subrooms(room), {(), ((0, 1),), ((1, 0), (0, 1))})

    def test_the_own_room_turned(self):
        for prime in PRIMES:
            ring = Ring.of_poly(prime, (0, 0, 1))
            room, other = turned_room(Room.own(ring)), Room.own(opposite(ring))
            self.assertNotEqual(room, other)
            # Here it is alike to it; the room of upper tables is not: no vector of it turned makes all of it.
            self.assertEqual(rebased_room(room, ((0, 1), (1, 0))), other)
            upper = turned_room(Room.own(Ring.stairs(prime, 2)))
            self.assertEqual(max(len(subroom_made(upper, (v,))) for v in vectors_of(upper)), 2)

    def test_the_examples_of_rings(self):
        for ring in (F2, U3, K9, N4, C4):
            self.assertEqual(subroom_made(Room.own(ring), (ring.one,)), unit_rows(ring.size))


if __name__ == "__main__":
    unittest.main()
