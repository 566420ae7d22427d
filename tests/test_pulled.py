"""Pulled rooms, lifts and joins [13.1] to [13.5]."""

import itertools
import unittest

from tablerings.base.spaces import kernel, space_of
from tablerings.base.lines import reduced
from tablerings.errors import InvalidNumber, InvalidRow, TooMany
from tablerings.rings.rings import Ring
from tablerings.rooms.free import cover, free_rooms, free_sum, head_numbers
from tablerings.rooms.least import least_rooms
from tablerings.rooms.maps import alike_map, map_number, maps, parts
from tablerings.rooms.pulled import (
    join_space, joined_room, lift_number, plain_joins, pulled, pulled_length, pulled_numbers,
)
from tablerings.rooms.rooms import Room, quotient_room, subroom, turned_room
from tests.room_samples import (
    direct_maps, fields_and_more, followed, is_room, low_room_rings, made_by, rebased_by_chance, room_rings, rooms_of,
    swap_ring, tables_of, twin_arrows, unit_rows,
)
from tests.samples import C4, PRIMES, great_rings, low_ring, rows_of, sums_of, turned


def are_alike(one, other):
    """Whether rooms are alike; rooms of unequal sizes are not."""
    return one.size == other.size and alike_map(one, other) is not None


def pulled_by_words(room):
    """What a cover leads to 0, as a room by itself."""
    numbers, table = cover(room)
    whole = free_sum(room.ring, numbers)
    if not table:
        return whole
    return subroom(whole, kernel(room.ring.prime, table) if room.size else unit_rows(whole.size))


def has_small_sums(room, steps):
    """Whether pulling a room so many times needs no free sum of more than 40 base vectors."""
    sizes = [one.size for one in free_rooms(room.ring)]
    for _ in range(steps):
        if sum(number * size for number, size in zip(head_numbers(room), sizes)) > 40:
            return False
        room = pulled_by_words(room)
    return True


def is_free(room):
    """Whether a room is alike to a free sum."""
    return len(cover(room)[1]) == room.size


def some_rings(prime):
    """Rings of many kinds over a prime."""
    rings = room_rings(prime)[::2] + fields_and_more(prime)[::2] + low_room_rings(prime)[::2]
    return rings + [swap_ring(prime), twin_arrows(prime)] + turned([swap_ring(prime)], 4)


def joins_of(room, further, rows):
    """The tables h_i that some rows of joins tell."""
    size, width = room.size, further.size
    return [[tuple(row[(i * size + r) * width:(i * size + r + 1) * width] for r in range(size)) for i in range(room.ring.size)]
            for row in rows]


def paired_tables(room, further, join):
    """The tables of the pairs of vectors by a join, told by its tables."""
    return tuple(tuple(low + high for low, high in zip(one, some)) + tuple((0,) * room.size + row for row in other)
                 for one, other, some in zip(room.tables, further.tables, join))


def is_join(room, further, row):
    """Whether a row is a join, by the document's words."""
    tables = paired_tables(room, further, joins_of(room, further, [row])[0])
    ring, size = room.ring, room.size + further.size
    for i, j in itertools.product(range(ring.size), repeat=2):
        goal = tuple(tuple(sum(ring.table[i][j][k] * tables[k][r][c] for k in range(ring.size)) % ring.prime
                           for c in range(size)) for r in range(size))
        if followed(ring.prime, size, tables[j], tables[i]) != goal:
            return False
    return True


def plain_row(room, further, table):
    """The plain join that comes of a table."""
    prime, width = room.ring.prime, further.size
    rows = []
    for one, other in zip(room.tables, further.tables):
        ahead, behind = followed(prime, width, table, other), followed(prime, width, one, table)
        rows += [tuple((a - b) % prime for a, b in zip(x, y)) for x, y in zip(ahead, behind)]
    return sum(rows, ())


class PulledTest(unittest.TestCase):
    def test_any_pulled_room(self):
        """[13.1]"""
        for prime in PRIMES:
            for ring in some_rings(prime):
                for room in rooms_of(ring, 6):
                    if not has_small_sums(room, 1):
                        continue
                    found = pulled(room)
                    self.assertEqual(Room(ring, found.tables), found)
                    goal = pulled_by_words(room)
                    self.assertEqual(found.size, goal.size)
                    self.assertEqual(found.size == 0, is_free(room))
                    if found.size <= 6:
                        self.assertTrue(are_alike(found, goal))
                        self.assertTrue(are_alike(found, pulled(rebased_by_chance(room, 7))))

    def test_sums(self):
        for prime in PRIMES:
            for ring in low_room_rings(prime):
                rooms = rooms_of(ring, 3)
                for one, other in itertools.product(rooms[1:4], rooms[-2:]):
                    both = Room.side_by_side(one, other)
                    if has_small_sums(both, 1):
                        goal = Room.side_by_side(pulled(one), pulled(other))
                        if goal.size <= 6:
                            self.assertTrue(are_alike(pulled(both), goal))

    def test_numbers(self):
        for prime in PRIMES:
            for ring in some_rings(prime):
                for room in rooms_of(ring, 4)[::2]:
                    for steps in range(5):
                        if has_small_sums(room, steps):
                            goal, last = [], room
                            for step in range(steps + 1):
                                goal.append(head_numbers(last))
                                last = pulled(last) if step < steps else last
                            self.assertEqual(pulled_numbers(room, steps), tuple(goal))
                        else:
                            with self.assertRaises(TooMany) as caught:
                                pulled_numbers(room, steps)
                            self.assertEqual(caught.exception.most, 40)

    def test_too_great(self):
        for prime in PRIMES:
            ring = low_ring(prime, 9)
            point = least_rooms(ring)[0]
            self.assertEqual([pulled(point).size, pulled_numbers(point, 1)], [8, ((1,), (8,))])
            self.assertEqual(pulled_length(point), ("beyond", 1))
            for call in (lambda: pulled(pulled(point)), lambda: pulled_numbers(point, 2), lambda: lift_number(point, point, 2)):
                with self.assertRaises(TooMany) as caught:
                    call()
                self.assertEqual(caught.exception.most, 40)
            many = Room.side_by_side(point, Room.side_by_side(point, Room.side_by_side(point, point)))
            self.assertEqual([pulled(many).size, pulled_numbers(many, 0)], [32, ((4,),)])
            more = Room.side_by_side(many, point)
            self.assertEqual(pulled_numbers(more, 0), ((5,),))
            for call in (pulled, pulled_length, lambda room: pulled_numbers(room, 1)):
                self.assertRaises(TooMany, call, more)


class LengthTest(unittest.TestCase):
    def length_by_words(self, room):
        """[13.2]"""
        rooms = [room]
        for k in range(9):
            last = rooms[-1]
            if last.size == 0:
                return ("ends", k)
            if last.size > 6:
                return ("beyond", k)
            for s in range(k):
                if are_alike(last, rooms[s]):
                    return ("again", s, k - s)
            if k == 8:
                return ("beyond", 8)
            if not has_small_sums(last, 1):
                return None
            rooms.append(pulled_by_words(last))
        return None

    def test_lengths(self):
        seen = {}
        for prime in PRIMES:
            for ring in some_rings(prime) + [Ring.stairs(prime, 3)] + great_rings(prime)[::4]:
                for room in rooms_of(ring, 7) + list(least_rooms(ring)):
                    right = self.length_by_words(room)
                    if right is None:
                        self.assertRaises(TooMany, pulled_length, room)
                    else:
                        self.assertEqual(pulled_length(room), right)
                    seen[right and right[0]] = seen.get(right and right[0], 0) + 1
        self.assertGreater(min(seen.get(word, 0) for word in ("ends", "again", "beyond")), 20)

    def test_known(self):
        for prime in PRIMES:
            ring = Ring.of_poly(prime, (0, 0, 0, 0, 0, 1))
            line = Room.own(ring)
            for size in range(1, 5):
                low = quotient_room(line, unit_rows(5)[size:])
                self.assertEqual(pulled_length(low), ("again", 0, 2))
            self.assertEqual(pulled_length(Room.own(Ring.of_poly(prime, (0,) * 7 + (1,)))), ("beyond", 0))
            upper = Ring.stairs(prime, 3)
            self.assertEqual(sorted(pulled_length(point) for point in least_rooms(upper)), [("ends", 1), ("ends", 2), ("ends", 2)])
            for point in least_rooms(swap_ring(prime)):
                self.assertEqual(pulled_length(point), ("again", 0, 2))
            self.assertEqual(pulled_length(least_rooms(low_ring(prime, 3))[0]), ("beyond", 3))

    def test_rings_with_a_form(self):
        """Over group rings and polynomials modulo one, just free sums end."""
        for prime in PRIMES:
            for ring in (Ring.of_moves(prime, ((1, 0, 2), (1, 2, 0))), Ring.of_poly(prime, (0, 0, 0, 1)), Ring.of_moves(prime, ((1, 2, 0),))):
                for room in rooms_of(ring, 6):
                    found = pulled_length(room)
                    if found[0] == "ends":
                        self.assertIn(found, (("ends", 0), ("ends", 1)))


class LiftTest(unittest.TestCase):
    def lift_by_words(self, room, further, step):
        """The maps of M_i less those that are maps of the free sum, asked at M_i alone."""
        if step == 0:
            return len(direct_maps(room, further))
        for _ in range(step - 1):
            room = pulled_by_words(room)
        numbers, table = cover(room)
        whole, prime = free_sum(room.ring, numbers), room.ring.prime
        gone = kernel(prime, table) if table and room.size else unit_rows(whole.size)
        inside = subroom(whole, gone)
        every = len(direct_maps(inside, further))
        asked = [sum(followed(prime, further.size, gone, f), ()) for f in tables_of(whole, further, maps(whole, further))]
        return every - len(reduced(prime, asked))

    def test_lift_numbers(self):
        """[13.3]"""
        for prime in PRIMES:
            for ring in some_rings(prime):
                rooms = rooms_of(ring, 4)
                for one, other in itertools.product(rooms[1:6:2], rooms[::3]):
                    for step in range(4):
                        if has_small_sums(one, step) and self.small(one, other, step):
                            self.assertEqual(lift_number(one, other, step), self.lift_by_words(one, other, step))

    def small(self, one, other, step):
        """Whether maps of the rooms that are needed are few enough to be told by the slow way."""
        last = one
        for _ in range(step - 1):
            last = pulled_by_words(last)
        whole = len(cover(last)[1]) if step else last.size
        return max(whole, last.size) * other.size <= 40

    def test_least_rooms(self):
        for prime in PRIMES:
            for ring in some_rings(prime):
                least = least_rooms(ring)
                degrees = [map_number(point, point) for point in least]
                for room in rooms_of(ring, 4)[1::2]:
                    for step in range(4):
                        if has_small_sums(room, step + 1) or step == 0:
                            numbers = pulled_numbers(room, step)[-1] if has_small_sums(room, step) else None
                            told = [lift_number(room, point, step) for point in least]
                            self.assertEqual(told, [d * number for d, number in zip(degrees, numbers)])

    def test_turned(self):
        for prime in PRIMES:
            for ring in low_room_rings(prime) + [swap_ring(prime), Ring.stairs(prime, 3)]:
                rooms = rooms_of(ring, 3)
                for one, other in itertools.product(rooms[:4], rooms[-3:]):
                    for step in range(4):
                        mirrored = turned_room(one), turned_room(other)
                        if has_small_sums(one, step) and has_small_sums(mirrored[1], step):
                            self.assertEqual(lift_number(one, other, step), lift_number(mirrored[1], mirrored[0], step))

    def test_sums_and_free_sums(self):
        for prime in PRIMES:
            for ring in low_room_rings(prime) + [Ring.stairs(prime, 3)]:
                rooms = rooms_of(ring, 3)[1:]
                for one, other, last in itertools.product(rooms[:2], rooms[-2:], rooms[1:3]):
                    both = Room.side_by_side(one, other)
                    for step in range(3):
                        if has_small_sums(both, step):
                            total = lift_number(one, last, step) + lift_number(other, last, step)
                            self.assertEqual(lift_number(both, last, step), total)
                            total = lift_number(last, one, step) + lift_number(last, other, step)
                            self.assertEqual(lift_number(last, both, step), total)
                for free, room in itertools.product(free_rooms(ring), rooms):
                    self.assertEqual([lift_number(free, room, step) for step in (1, 2, 3)], [0, 0, 0])
            for ring in (Ring.full(prime, 2), Ring.both(Ring.full(prime, 1), Ring.full(prime, 2))):
                for one, other in itertools.product(rooms_of(ring, 4), repeat=2):
                    self.assertEqual([lift_number(one, other, step) for step in (1, 2, 3)], [0, 0, 0])

    def test_refused(self):
        for prime in PRIMES:
            ring = low_ring(prime, 9)
            point = least_rooms(ring)[0]
            many = free_sum(ring, (2,))
            for one, other, step, most in ((point, point, 2, 40), (point, many, 0, None), (many, many, 0, 144), (point, many, 1, None),
                                           (point, Room.side_by_side(many, point), 1, 144), (many, many, 1, 144),
                                           (Room.side_by_side(many, point), many, 2, 40), (Room.side_by_side(many, many), many, 2, None)):
                if most is None:
                    self.assertGreaterEqual(lift_number(one, other, step), 0)
                else:
                    with self.assertRaises(TooMany) as caught:
                        lift_number(one, other, step)
                    self.assertEqual(caught.exception.most, most)
            for wrong in (-1, 4, True, None, "1", 10 ** 60, (1,)):
                with self.assertRaises(InvalidNumber) as caught:
                    lift_number(point, point, wrong)
                self.assertIs(caught.exception.given, wrong)


class JoinTest(unittest.TestCase):
    def pairs(self, prime):
        """Pairs of rooms with rows of joins that are not too wide."""
        found = []
        for ring in some_rings(prime):
            rooms, least = rooms_of(ring, 5), list(least_rooms(ring))
            for one, other in itertools.product(rooms[::2] + least, rooms[::3] + least):
                if ring.size * one.size * other.size <= 60:
                    found.append((one, other))
        return found

    def some_pairs(self, prime):
        """Some of these pairs, those with joins that are not plain ahead of others."""
        every = self.pairs(prime)
        lifted = [pair for pair in every if pair[0].size and pair[1].size and lift_number(pair[0], pair[1], 1)]
        self.assertGreater(len(lifted), 40)
        return lifted[::1 + len(lifted) // 30] + every[::40]

    def test_joins(self):
        """[13.4]"""
        for prime in PRIMES:
            for one, other in self.some_pairs(prime):
                space, plain = join_space(one, other), plain_joins(one, other)
                for row in space + plain:
                    self.assertTrue(is_join(one, other, row))
                self.assertEqual(len(space) - len(plain), lift_number(one, other, 1))
                self.assertEqual(reduced(prime, plain + space), space)
                rows = [plain_row(one, other, tuple(row[at * other.size:(at + 1) * other.size] for at in range(one.size)))
                        for row in unit_rows(one.size * other.size)]
                self.assertEqual(reduced(prime, rows), plain)

    def test_all_rows_of_small_rooms(self):
        for prime in PRIMES:
            for one, other in self.pairs(prime)[::2]:
                width = one.ring.size * one.size * other.size
                if prime ** width <= 700:
                    right = {row for row in rows_of(prime, width) if is_join(one, other, row)}
                    self.assertEqual(sums_of(prime, width, join_space(one, other)), right)
                    tables = itertools.product(rows_of(prime, other.size), repeat=one.size)
                    plain = {plain_row(one, other, table) for table in tables}
                    self.assertEqual(sums_of(prime, width, plain_joins(one, other)), plain)
                    for row in rows_of(prime, width):
                        if row in right:
                            self.check_room(one, other, row, row in plain)
                        else:
                            self.assertRaises(InvalidRow, joined_room, one, other, row)

    def check_room(self, one, other, row, is_plain):
        found = joined_room(one, other, row)
        self.assertTrue(is_room(found))
        self.assertEqual(found.tables, paired_tables(one, other, joins_of(one, other, [row])[0]))
        inside = tuple((0,) * one.size + unit for unit in unit_rows(other.size))
        self.assertEqual([subroom(found, inside), quotient_room(found, inside)], [other, one])
        if found.size <= 6:
            self.assertEqual(alike_map(found, Room.side_by_side(one, other)) is not None, is_plain)

    def test_joined_rooms(self):
        for prime in PRIMES:
            for one, other in self.some_pairs(prime)[::2]:
                plain = plain_joins(one, other)
                for row in join_space(one, other)[:3] + plain[:2] + ((0,) * (one.ring.size * one.size * other.size),):
                    self.check_room(one, other, row, reduced(prime, plain + (row,)) == plain)

    def test_the_greatest(self):
        for prime in PRIMES:
            ring = Ring.of_poly(prime, (0, 0, 1))
            low, high = Room.own(ring), least_rooms(ring)[0]
            wide = Room(Ring.full(prime, 1), (unit_rows(15),))
            short = Room(Ring.full(prime, 1), (unit_rows(10),))
            self.assertEqual([join_space(wide, short), plain_joins(wide, short)], [(), ()])
            self.assertEqual(joined_room(wide, short, (0,) * 150), Room.side_by_side(wide, short))
            many = free_sum(ring, (5,))
            for call in (join_space, plain_joins, lambda one, other: joined_room(one, other, (0,) * (2 * one.size * other.size))):
                for one, other in ((many, free_sum(ring, (4,))), (many, many)):
                    with self.assertRaises(TooMany) as caught:
                        call(one, other)
                    self.assertEqual(caught.exception.most, 150)
            seven = Room.side_by_side(free_sum(ring, (3,)), high)
            self.assertEqual(len(join_space(many, seven)) - len(plain_joins(many, seven)), 0)
            self.assertEqual(len(join_space(seven, many)) - len(plain_joins(seven, many)), lift_number(seven, many, 1))
            point, line = Room(Ring.full(prime, 1), (unit_rows(3),)), Room(Ring.full(prime, 1), (unit_rows(40),))
            self.assertEqual(join_space(point, line), ())
            with self.assertRaises(TooMany) as caught:
                joined_room(point, line, (0,) * 120)
            self.assertEqual([caught.exception.most, low.size], [40, 2])
            with self.assertRaises(TooMany) as caught:
                joined_room(line, Room(Ring.full(prime, 1), (unit_rows(4),)), (0,) * 160)
            self.assertEqual(caught.exception.most, 150)
            self.assertRaises(InvalidRow, joined_room, line, line, (0,) * 1599 + (1,))
            self.assertRaises(InvalidRow, joined_room, point, line, (0,) * 119)

    def test_nothing(self):
        for prime in PRIMES:
            ring = Ring.stairs(prime, 2)
            own, nothing = Room.own(ring), Room.nothing(ring)
            for one, other in ((own, nothing), (nothing, own), (nothing, nothing)):
                self.assertEqual([join_space(one, other), plain_joins(one, other)], [(), ()])
                self.assertEqual(joined_room(one, other, ()), Room.side_by_side(one, other))
                self.assertRaises(InvalidRow, joined_room, one, other, (0,))
                self.assertEqual([lift_number(one, other, step) for step in range(4)], [0, 0, 0, 0])
            self.assertEqual([pulled(nothing), pulled_length(nothing), pulled_numbers(nothing, 4)], [nothing, ("ends", 0), ((0, 0),) * 5])


class NotTrueTest(unittest.TestCase):
    """[13.5]"""

    def test_lift_numbers_both_ways(self):
        for prime in PRIMES:
            one, other = least_rooms(Ring.stairs(prime, 2))
            self.assertEqual(sorted([lift_number(one, other, 1), lift_number(other, one, 1)]), [0, 1])

    def test_the_pulled_room_of_an_unsplittable_room(self):
        for prime in PRIMES:
            point = least_rooms(low_ring(prime, 3))[0]
            self.assertEqual([len(parts(point)), len(parts(pulled(point)))], [1, 2])

    def test_what_ends_ends_at_once(self):
        for prime in PRIMES:
            upper = Ring.stairs(prime, 3)
            own = Room.own(upper)
            rooms = [point for point in least_rooms(upper) if pulled_length(point) == ("ends", 2)]
            self.assertTrue(rooms and all(pulled(room).size > 0 for room in rooms))
            self.assertEqual(pulled_length(subroom(own, made_by(own, 1, 1))), ("ends", 1))

    def test_the_examples(self):
        point = least_rooms(C4)[0]
        found = joined_room(point, point, join_space(point, point)[0])
        self.assertEqual([found.size, len(parts(found)), len(space_of(2, 2, found.tables[1]))], [2, 1, 2])


if __name__ == "__main__":
    unittest.main()
