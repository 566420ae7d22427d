"""Rings of one line [18.1] to [18.6]."""

import itertools
import random
import unittest

from tablerings.base.polys import first_irreducible, poly_product
from tablerings.errors import InvalidNumber, InvalidOperation, Refused
from tablerings.rings.radical import radical
from tablerings.rings.rings import Ring, is_subring, opposite, rebased, ring_of_subring, subring_made
from tablerings.rooms.free import free_rooms, head_numbers
from tablerings.rooms.least import layers, least_rooms, list_of
from tablerings.rooms.lines import (
    is_line_ring, ladder_lengths, next_heads, room_of_stretch, stretch_maps, stretches,
)
from tablerings.rooms.maps import alike_map, map_number, parts, split_paper
from tablerings.rooms.rooms import Room, quotient_room, rebased_room, subroom, subroom_made
from tablerings.webs.webs import web_ring
from tests.room_samples import all_subrooms, made_by, rebased_by_chance, rooms_of, twin_arrows
from tests.samples import (
    C4, F2, K9, N4, PRIMES, S3, U3, V4, all_rings, chance_table, full_over, great_rings, junk, low_ring, turned,
)


def line_rings(prime):
    """Rings of one line: J equal to 0, one ladder, several ones, rounds, fields, full tables over a ladder."""
    field2 = first_irreducible(prime, 2)
    rings = [
        Ring.full(prime, 1), Ring.full(prime, 2), Ring.stairs(prime, 2), Ring.stairs(prime, 3), Ring.of_poly(prime, (0, 0, 0, 1)),
        Ring.of_poly(prime, poly_product(prime, field2, field2)), Ring.both(Ring.stairs(prime, 2), Ring.of_poly(prime, (0, 0, 1))),
        web_ring(prime, 2, ((0, 1), (1, 0)), (), 2), web_ring(prime, 2, ((0, 1), (1, 0)), (), 3), web_ring(prime, 2, ((0, 1), (1, 0)), ({(0, 1): 1},), 4),
        web_ring(prime, 3, ((0, 1), (1, 2), (2, 0)), (), 3), web_ring(prime, 3, ((0, 1), (1, 2)), ({(0, 1): 1},), 3),
        full_over(prime, (0, 0, 1), 2), Ring.both(Ring.of_poly(prime, field2), Ring.of_poly(prime, (0, 0, 1))),
    ]
    return rings + turned(rings, prime + 90)


def other_rings(prime):
    """Rings that are not of one line: on both sides, or on one side alone."""
    rings = [low_ring(prime, 3), twin_arrows(prime), web_ring(prime, 3, ((0, 1), (0, 2)), (), 2), web_ring(prime, 3, ((0, 2), (1, 2)), (), 2),
             web_ring(prime, 2, ((0, 0), (0, 1)), ({(0, 0): 1},), 3), Ring.both(low_ring(prime, 3), Ring.full(prime, 2))]
    return rings + turned(rings, prime + 91)


def nil_layers(room):
    """The subrooms J^i M, as long as they are not 0, by the document's words."""
    found, space = [], tuple(tuple(1 if i == j else 0 for j in range(room.size)) for i in range(room.size))
    while space:
        found.append(space)
        made = tuple(room.led_by(member, vector) for member in radical(room.ring) for vector in space)
        space = subroom_made(room, tuple(sorted(set(made)))[:100])
    return found


def is_ladder(room):
    """Whether each J^i M / J^(i + 1) M is least."""
    spaces = nil_layers(room) + [()]
    for high, low in zip(spaces, spaces[1:]):
        if sum(list_of(subroom(room, high))) - sum(list_of(subroom(room, low))) != 1:
            return False
    return True


def is_chain(room):
    """Whether the subrooms lie in one another in one row, by trying all of them."""
    found = sorted(all_subrooms(room), key=len)
    return all(len(one) < len(other) and subroom_made(room, one + other) == other for one, other in zip(found, found[1:]))


def is_line_by_words(ring):
    """Whether all least free rooms are ladders, and so are those of the opposite ring."""
    return all(is_ladder(room) for some in (ring, opposite(ring)) for room in free_rooms(some))


def all_stretches(ring):
    """All pairs of a head and a length."""
    return [(head, length) for head, whole in enumerate(ladder_lengths(ring)) for length in range(1, whole + 1)]


def number_in(room, like):
    """How often rooms alike to an unsplittable one stand in a parting."""
    return len([space for space in parts(room) if alike_map(subroom(room, space), like) is not None])


class LineTest(unittest.TestCase):
    def test_line_rings(self):
        """[18.1]"""
        seen = {True: 0, False: 0}
        for prime in PRIMES:
            for ring in all_rings(prime) + great_rings(prime) + line_rings(prime) + other_rings(prime):
                told = is_line_by_words(ring)
                self.assertIs(is_line_ring(ring), told)
                self.assertIs(is_line_ring(opposite(ring)), told)
                seen[told] += 1
                if radical(ring) == ():
                    self.assertTrue(told)
            for ring in line_rings(prime):
                self.assertTrue(is_line_ring(ring))
            for ring in other_rings(prime):
                self.assertFalse(is_line_ring(ring))
        self.assertGreater(min(seen.values()), 50)

    def test_chains(self):
        """Ladders are the rooms whose subrooms lie in one another, and so are unsplittable rooms over a ring of one line."""
        for prime in (2, 3):
            for ring in line_rings(prime)[:12] + other_rings(prime)[:4]:
                for room in list(free_rooms(ring)) + rooms_of(ring, 4):
                    if room.size and room.ring.prime ** room.size <= 81:
                        self.assertEqual(is_ladder(room), is_chain(room))
                        if is_line_ring(ring):
                            self.assertEqual(is_ladder(room), split_paper(room)[0] == "whole")

    def test_lengths_and_next_ones(self):
        """[18.3]: the next least room is the second layer, and no two have the same one."""
        for prime in PRIMES:
            for ring in line_rings(prime):
                lengths, following = ladder_lengths(ring), next_heads(ring)
                least = least_rooms(ring)
                self.assertEqual([len(lengths), len(following)], [len(least)] * 2)
                for at, room in enumerate(free_rooms(ring)):
                    spaces = nil_layers(room)
                    self.assertEqual([lengths[at], len(layers(room))], [len(spaces)] * 2)
                    self.assertEqual(head_numbers(room).index(1), at)
                    if len(spaces) == 1:
                        self.assertIs(following[at], None)
                    else:
                        second = head_numbers(subroom(room, spaces[1]))
                        self.assertEqual([sum(second), second.index(1)], [1, following[at]])
                known = [at for at in following if at is not None]
                self.assertEqual(len(known), len(set(known)))

    def test_refused(self):
        for prime in PRIMES:
            for ring in other_rings(prime):
                calls = [lambda: ladder_lengths(ring), lambda: next_heads(ring), lambda: stretches(Room.own(ring)), lambda: stretches(Room.nothing(ring)),
                         lambda: room_of_stretch(ring, 0, 1), lambda: room_of_stretch(ring, 0, 99), lambda: stretch_maps(ring, (0, 1), (0, 1)),
                         lambda: stretch_maps(ring, (0, 99), (0, 1))]
                for call in calls:
                    with self.assertRaises(Refused) as caught:
                        call()
                    self.assertEqual(caught.exception.reason, ("lines",))


class StretchTest(unittest.TestCase):
    def test_rooms_of_stretches(self):
        """[18.2], [18.3]"""
        for prime in PRIMES:
            for ring in line_rings(prime):
                following, least = next_heads(ring), least_rooms(ring)
                for head, length in all_stretches(ring):
                    room = room_of_stretch(ring, head, length)
                    self.assertTrue(is_ladder(room))
                    self.assertEqual([len(nil_layers(room)), head_numbers(room).index(1)], [length, head])
                    self.assertEqual(stretches(room), ((head, length, 1),))
                    # What stands in it comes of the head by going on to the next one.
                    stops = [head]
                    while len(stops) < length:
                        stops.append(following[stops[-1]])
                    self.assertEqual(list_of(room), tuple(stops.count(at) for at in range(len(least))))
                    whole = free_rooms(ring)[head]
                    low = (nil_layers(whole) + [()])[length]
                    self.assertIsNotNone(alike_map(room, quotient_room(whole, low)))

    def mixed_rooms(self, ring, seed):
        """Rooms with known stretches: some of them side by side, by another base."""
        chance, every = random.Random(seed), all_stretches(ring)
        for _ in range(6):
            room, known = Room.nothing(ring), []
            for _ in range(chance.randrange(4)):
                head, length = chance.choice(every)
                more = room_of_stretch(ring, head, length)
                if room.size + more.size <= 9:
                    room = Room.side_by_side(room, more)
                    known.append((head, length))
            if room.size:
                room = rebased_by_chance(room, seed)
            yield room, tuple((head, length, known.count((head, length))) for head, length in sorted(set(known)))

    def test_stretches(self):
        """Sums are told by what they are made of, and other rooms by their parts."""
        for prime in PRIMES:
            for ring in line_rings(prime):
                for room, known in self.mixed_rooms(ring, prime + ring.size):
                    self.assertEqual(stretches(room), known)
                rooms = rooms_of(ring, 6)
                for room in rooms[::2] if ring.size <= 6 else rooms[::4]:
                    found = stretches(room)
                    self.assertEqual(found, tuple(sorted(found)))
                    self.assertEqual(sum(times for _, _, times in found), len(parts(room)))
                    for head, length, times in found:
                        self.assertEqual(number_in(room, room_of_stretch(ring, head, length)), times)

    def test_layers_tell_stretches(self):
        """How often a stretch of at least a length stands is how often its last least room stands in the layer."""
        for prime in PRIMES:
            for ring in line_rings(prime)[::2]:
                following = next_heads(ring)
                for room in rooms_of(ring, 6)[::3] + [Room.own(ring)]:
                    spaces, found = nil_layers(room) + [()], stretches(room)
                    for head in range(len(following)):
                        at = head
                        for layer, (high, low) in enumerate(zip(spaces, spaces[1:])):
                            number = sum(times for some, length, times in found if some == head and length > layer)
                            stands = 0 if at is None else list_of(subroom(room, high))[at] - list_of(subroom(room, low))[at]
                            self.assertEqual(number, stands)
                            at = None if at is None else following[at]

    def test_number_of_unsplittable_rooms(self):
        """No two stretches are alike, and each part of a room is alike to one: as many as the lengths add up to."""
        for prime in PRIMES:
            for ring in line_rings(prime)[::2]:
                rooms = [room_of_stretch(ring, head, length) for head, length in all_stretches(ring)]
                self.assertEqual(len(rooms), sum(ladder_lengths(ring)))
                for one, other in itertools.combinations(rooms, 2):
                    self.assertIsNone(alike_map(one, other))
                for room in rooms_of(ring, 5)[1::3]:
                    for space in parts(room):
                        part = subroom(room, space)
                        self.assertEqual(len([some for some in rooms if alike_map(some, part) is not None]), 1)

    def test_alike(self):
        """[18.4]"""
        seen = {True: 0, False: 0}
        for prime in PRIMES:
            for ring in line_rings(prime)[::3]:
                rooms = rooms_of(ring, 5)
                for one, other in itertools.combinations(rooms + [rebased_by_chance(room, 3) for room in rooms[2:4]], 2):
                    told = alike_map(one, other) is not None
                    self.assertEqual(stretches(one) == stretches(other), told)
                    seen[told] += 1
        self.assertGreater(min(seen.values()), 50)

    def test_maps(self):
        """[18.5]: by the rule and by the space of maps."""
        for prime in PRIMES:
            for ring in line_rings(prime):
                for one, other in itertools.product(all_stretches(ring)[:9], repeat=2):
                    number = map_number(room_of_stretch(ring, *one), room_of_stretch(ring, *other))
                    self.assertEqual(stretch_maps(ring, one, other), number)

    def test_nothing_and_least_rings(self):
        for prime in PRIMES:
            ring = Ring.full(prime, 1)
            self.assertEqual([ladder_lengths(ring), next_heads(ring), stretches(Room.own(ring))], [(1,), (None,), ((0, 1, 1),)])
            self.assertEqual(stretch_maps(ring, (0, 1), (0, 1)), 1)
            for some in line_rings(prime):
                self.assertEqual(stretches(Room.nothing(some)), ())
            field = Ring.of_poly(prime, first_irreducible(prime, 3))
            self.assertEqual([stretch_maps(field, (0, 1), (0, 1)), ladder_lengths(field)], [3, (1,)])
            two = Ring.full(prime, 2)
            self.assertEqual([stretches(Room.own(two)), next_heads(two)], [((0, 1, 2),), (None,)])

    def test_wrong_numbers(self):
        for prime in PRIMES:
            ring = Ring.stairs(prime, 2)
            long = ladder_lengths(ring).index(2)
            for head in junk() + [2, 10 ** 60, "0", (0,), None]:
                for length in (None, 1, 99):
                    with self.assertRaises(InvalidNumber) as caught:
                        room_of_stretch(ring, head, length)
                    self.assertIs(caught.exception.given, head)
                self.assertRaises(InvalidOperation, stretch_maps, ring, (head, 1), (0, 1))
                self.assertRaises(InvalidOperation, stretch_maps, ring, (0, 1), (head, 1))
                self.assertRaises(InvalidOperation, stretch_maps, ring, head, (0, 1))
            for length in junk() + [0, 10 ** 60, "1", (1,), None]:
                with self.assertRaises(InvalidNumber) as caught:
                    room_of_stretch(ring, 0, length)
                self.assertIs(caught.exception.given, length)
                self.assertRaises(InvalidOperation, stretch_maps, ring, (0, length), (0, 1))
            for length in (3, 10 ** 60 - 1):
                self.assertRaises(InvalidOperation, room_of_stretch, ring, long, length)
                self.assertRaises(InvalidOperation, stretch_maps, ring, (long, length), (0, 1))
                self.assertRaises(InvalidOperation, stretch_maps, ring, (0, 1), (long, length))
            self.assertRaises(InvalidOperation, room_of_stretch, ring, 1 - long, 2)
            for wrong in ((0,), (0, 1, 1), [0, 1], {0: 1}, ((0, 1),)):
                self.assertRaises(InvalidOperation, stretch_maps, ring, wrong, (0, 1))
            self.assertEqual([room_of_stretch(ring, long, 2).size, stretch_maps(ring, (long, 2), (long, 2))], [2, 1])


class NotTrueTest(unittest.TestCase):
    """[18.6]"""

    def test_ladders_on_one_side(self):
        for prime in PRIMES:
            for arrows in (((0, 1), (0, 2)), ((0, 2), (1, 2))):
                ring = web_ring(prime, 3, arrows, (), 2)
                sides = [all(is_ladder(room) for room in free_rooms(some)) for some in (ring, opposite(ring))]
                self.assertEqual([sorted(sides), is_line_ring(ring)], [[False, True], False])

    def test_equal_lists(self):
        for prime in PRIMES:
            ring = Ring.of_poly(prime, (0, 0, 1))
            one, point = Room.own(ring), room_of_stretch(ring, 0, 1)
            other = Room.side_by_side(point, point)
            self.assertEqual([list_of(one) == list_of(other), alike_map(one, other)], [True, None])
            self.assertEqual([stretches(one), stretches(other)], [((0, 2, 1),), ((0, 1, 2),)])

    def test_subrings(self):
        for prime in PRIMES:
            ring = Ring.full(prime, 3)
            space = subring_made(ring, ((0, 1, 0, 0, 0, 0, 0, 0, 0), (0, 0, 1, 0, 0, 0, 0, 0, 0)))
            self.assertTrue(is_subring(ring, space) and is_line_ring(ring))
            self.assertIs(is_line_ring(ring_of_subring(ring, space)), False)

    def test_longer_ladders(self):
        for prime in PRIMES:
            ring = Ring.stairs(prime, 2)
            lengths = ladder_lengths(ring)
            long, short = lengths.index(2), lengths.index(1)
            self.assertNotEqual(room_of_stretch(ring, long, 1), room_of_stretch(ring, short, 1))
            whole, point = room_of_stretch(ring, long, 2), room_of_stretch(ring, short, 1)
            self.assertEqual([space for space in nil_layers(whole) if alike_map(quotient_room(whole, space), point) is not None], [])

    def test_the_examples(self):
        self.assertEqual([is_line_ring(ring) for ring in (F2, U3, K9, S3, C4, N4, V4)], [True] * 6 + [False])

    def test_other_bases(self):
        for prime in PRIMES:
            for ring in line_rings(prime)[:14:3]:
                other = rebased(ring, chance_table(prime, ring.size, random.Random(2)))
                self.assertEqual(sorted(ladder_lengths(other)), sorted(ladder_lengths(ring)))
                own = Room.own(ring)
                table = chance_table(prime, own.size, random.Random(3))
                self.assertEqual(stretches(rebased_room(own, table)), stretches(own))
                self.assertEqual(sum(times for _, _, times in stretches(subroom(own, made_by(own, 1, 1)))), len(parts(subroom(own, made_by(own, 1, 1)))))


if __name__ == "__main__":
    unittest.main()
