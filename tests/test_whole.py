"""What the document says of the whole program: conventions [0.1] to [0.7], main statements [0.15] to [0.20]."""

import copy
import itertools
import unittest

from tablerings.base.lines import reduced
from tablerings.base.spaces import space_meet, space_sum
from tablerings.desk.desk import Desk
from tablerings.errors import TooMany
from tablerings.rings.forms import even_form, form_of
from tablerings.rings.full import full_parts, kinds
from tablerings.rings.ideals import centre, ideal_made, quotient_ring
from tablerings.rings.idempotents import is_leading_unit, is_parting, leading_unit, parting
from tablerings.rings.radical import is_nilpotent, nil_paper, radical, radical_sizes
from tablerings.rings.rings import Ring, rebased
from tablerings.rings.split import is_leading_nil, leading_nil, split_subring
from tablerings.rooms.free import cartan, free_rooms
from tablerings.rooms.least import is_room_paper, least_rooms, list_of, room_paper
from tablerings.rooms.lines import is_line_ring, stretches
from tablerings.rooms.maps import alike_map, is_unlike_paper, map_number, parts, self_ring, times_in, unlike_paper
from tablerings.rooms.rooms import Room, quotient_room, rebased_room, subroom
from tablerings.text.texts import read_ring, read_room, write_ring, write_room
from tablerings.webs.webs import basic_ring, is_basic, picture, web_paths, web_ring
from tests.room_samples import low_room_rings, rebased_by_chance, rooms_of, unit_rows
from tests.samples import C4, F2, K9, PRIMES, S3, U3, V4, all_rings, great_rings, junk, some_rows
from tests.web_samples import members_of_paths


class StatementTest(unittest.TestCase):
    def test_nil_or_full_tables(self):
        """[0.15]"""
        for prime in PRIMES:
            for ring in all_rings(prime) + great_rings(prime)[::2]:
                nil, units = radical(ring), unit_rows(ring.size)
                if nil == ():
                    rows = tuple(row for part in full_parts(ring) for row in part)
                    self.assertEqual([len(rows), reduced(prime, rows)], [ring.size, units])
                    self.assertEqual(sorted(len(part) for part in full_parts(ring)), sorted(m * m * d for m, d in kinds(ring)))
                space = split_subring(ring)
                self.assertEqual([space_sum(prime, ring.size, space, nil), space_meet(prime, ring.size, space, nil)], [units, ()])
                # Another one is led to it by a unit 1 + j.
                if nil:
                    unit = ring.added(ring.one, nil[-1])
                    other = reduced(prime, [ring.product(ring.product(unit, row), ring.inverse(unit)) for row in space])
                    self.assertIs(is_leading_nil(ring, space, other, leading_nil(ring, space, other)), True)
                some = parting(ring)
                unit = next(row for row in some_rows(prime, ring.size, 60, 4) + [ring.one] if ring.is_unit(row))
                moved = tuple(ring.product(ring.product(ring.inverse(unit), e), unit) for e in some[::-1])
                self.assertIs(is_parting(ring, moved), True)
                self.assertIs(is_leading_unit(ring, some, moved, leading_unit(ring, some, moved)), True)

    def test_every_room(self):
        """[0.16]: a subroom or a paper that it is least; in whatever way a room is built, its least rooms are the same."""
        for prime in PRIMES:
            for ring in low_room_rings(prime):
                for room in rooms_of(ring, 5)[1:]:
                    if not room.size:
                        continue
                    paper = room_paper(room)
                    self.assertIs(is_room_paper(room, paper), True)
                    total = sum(list_of(room))
                    self.assertEqual(paper[0] == "least", total == 1)
                    if paper[0] == "subroom":
                        low, high = subroom(room, paper[1]), quotient_room(room, paper[1])
                        self.assertEqual(tuple(a + b for a, b in zip(list_of(low), list_of(high))), list_of(room))
                    other = rebased_by_chance(room, 4)
                    self.assertEqual([list_of(other), sorted(map(len, parts(other)))], [list_of(room), sorted(map(len, parts(room)))])

    def test_every_two_rooms(self):
        """[0.17]: alike, or some unsplittable room stands in them unequally often, by ranks of maps alone."""
        for prime in PRIMES:
            for ring in low_room_rings(prime)[::2]:
                rooms = rooms_of(ring, 4)
                for one, other in itertools.combinations(rooms, 2):
                    paper = unlike_paper(one, other)
                    self.assertEqual(paper is None, alike_map(one, other) is not None)
                    self.assertIs(is_unlike_paper(one, other, paper), paper is not None)
                    if is_line_ring(ring):
                        self.assertEqual(paper is None, stretches(one) == stretches(other))
                    if paper is not None:
                        self.assertEqual([times_in(paper[0], one), times_in(paper[0], other)], list(paper[1:]))

    def test_every_row_of_members(self):
        """[0.18]"""
        for prime in PRIMES:
            for ring in all_rings(prime)[::2]:
                rooms = least_rooms(ring)
                for members in ((), radical(ring), tuple(some_rows(prime, ring.size, 2, 3)), radical(ring)[:1] + (ring.one,)):
                    gone = not any(any(room.led_by(member, vector)) for room in rooms for member in members for vector in unit_rows(room.size))
                    paper = nil_paper(ring, members)
                    self.assertEqual(paper[0], "power" if gone else "stays")
                    if gone:
                        power = ideal = ideal_made(ring, members)
                        for _ in range(paper[1] - 1):
                            power = reduced(prime, [ring.product(a, b) for a in power for b in ideal])
                        self.assertEqual(power, ())
                    else:
                        product = ring.product(paper[2], members[paper[1]])
                        self.assertFalse(ring.is_unit(ring.added(ring.one, ring.times(-1, product))))

    def test_back(self):
        """[0.19]: the arrows between least rooms and some words give back the least ring that has the same rooms."""
        seen = 0
        for prime in PRIMES:
            for ring in all_rings(prime):
                if all(map_number(room, room) == 1 for room in least_rooms(ring)):
                    low = basic_ring(ring)
                    self.assertTrue(is_basic(low))
                    some, told, words, depth = picture(low)
                    web = (prime, len(some), tuple(arrow[:2] for arrow in told), words, depth)
                    table = tuple(members_of_paths(low, some, told, web_paths(*web)))
                    self.assertEqual(rebased(low, table), web_ring(*web))
                    self.assertEqual(sorted(map(len, cartan(low))), sorted(map(len, cartan(ring))))
                    seen += 1
        self.assertGreater(seen, 60)

    def test_self_maps_of_the_ring(self):
        """The self maps of the ring over itself are the ring: products on the other side, told by the rows of maps."""
        for prime in PRIMES:
            for ring in all_rings(prime)[::5]:
                own = Room.own(ring)
                made = self_ring(own)
                self.assertEqual([made.size, kinds(made), radical_sizes(made)], [ring.size, kinds(ring), radical_sizes(ring)])


class NotTrueTest(unittest.TestCase):
    """[0.20]"""

    def test_nilpotent_members_are_an_ideal(self):
        for prime in PRIMES:
            ring = Ring.full(prime, 2)
            one, other = (0, 1, 0, 0), (0, 0, 1, 0)
            told = [is_nilpotent(ring, row) for row in (one, other, ring.added(one, other), ring.product(one, other))]
            self.assertEqual(told, [True, True, False, False])

    def test_nilpotent_members_and_nil(self):
        for prime in PRIMES:
            ring = Ring.full(prime, 2)
            self.assertEqual([radical(ring), is_nilpotent(ring, (0, 1, 0, 0))], [(), True])

    def test_rooms_of_the_same_least_rooms(self):
        for prime in PRIMES:
            own = Room.own(Ring.of_poly(prime, (0, 0, 1)))
            point = least_rooms(own.ring)[0]
            other = Room.side_by_side(point, point)
            self.assertEqual([list_of(own), alike_map(own, other)], [list_of(other), None])

    def test_rings_with_free_rooms_built_alike(self):
        self.assertEqual([cartan(C4), [room.size for room in free_rooms(C4)]], [cartan(V4), [room.size for room in free_rooms(V4)]])
        self.assertNotEqual(radical_sizes(C4), radical_sizes(V4))
        for prime in PRIMES:
            one, other = Ring.of_poly(prime, (0, 0, 0, 1)), web_ring(prime, 1, ((0, 0), (0, 0)), (), 2)
            self.assertEqual(cartan(one), cartan(other))
            self.assertNotEqual(radical_sizes(one), radical_sizes(other))

    def test_least_rooms_and_classes(self):
        for prime, moves, classes in ((2, ((1, 0, 2), (1, 2, 0)), 3), (3, ((1, 0, 2), (1, 2, 0)), 3), (2, ((1, 2, 3, 0),), 4), (5, ((1, 2, 3, 4, 0),), 5),
                                      (7, ((1, 2, 3, 4, 5, 6, 0),), 7)):
            ring = Ring.of_moves(prime, moves)
            # The sums of the members of each class are a base of the centre.
            self.assertEqual(len(centre(ring)), classes)
            self.assertLess(len(least_rooms(ring)), classes)

    def test_forms_that_are_told_by_both_sides(self):
        for prime in PRIMES:
            self.assertEqual([form_of(Ring.stairs(prime, 2)), even_form(Ring.stairs(prime, 2))], [None, None])

    def test_maps_from_least_rooms(self):
        for prime in PRIMES:
            ring = Ring.of_poly(prime, (0, 0, 0, 1))
            own, point = Room.own(ring), least_rooms(ring)[0]
            short = quotient_room(own, ((0, 0, 1),))
            self.assertEqual([map_number(point, room) for room in (own, short, point)], [1, 1, 1])
            self.assertEqual([alike_map(own, short), alike_map(short, point)], [None, None])


class ConventionTest(unittest.TestCase):
    def test_equal_to_every_value(self):
        """[0.2]"""
        desk = Desk(F2)
        for known in (F2, Room.own(F2), desk):
            for value in junk() + [F2, Room.own(F2), desk, Desk(F2), Desk(K9), Room.own(K9), K9, Desk(U3)]:
                # The rings are told apart by their texts, and so are the rooms and desks here.
                same = type(value) is type(known) and str(value) == str(known)
                self.assertIs(known == value, same)
                self.assertIs(known != value, not same)
        for value in junk():
            self.assertIs(value in F2, False)
            self.assertIs(value in desk, False)
        self.assertRaises(TypeError, iter, F2)
        self.assertRaises(TypeError, iter, Room.own(F2))

    def test_nothing_is_shared(self):
        """What is returned can be changed, and what was passed, too, without a change of any object."""
        ring = web_ring(3, 1, ((0, 0), (0, 0)), ({(0, 1): 1, (1, 0): 2},), 3)
        found = picture(ring)
        before = copy.deepcopy(found)
        for word in found[2]:
            word.clear()
        self.assertEqual(picture(ring), before)
        words = ({(0, 1): 1, (1, 0): 2},)
        made = web_ring(3, 1, ((0, 0), (0, 0)), words, 3)
        words[0][(0, 0)] = 1
        self.assertEqual(made, ring)
        desk = Desk(F2)
        desk.do(("put", "a", Room.own(F2)))
        desk.kept.clear()
        self.assertEqual([len(desk), desk["a"]], [1, Room.own(F2)])

    def test_equal_calls(self):
        """Equal calls on equal rings have equal results, whatever was asked ahead of them."""
        for prime in PRIMES:
            for ring in all_rings(prime)[::3]:
                other = Ring(prime, ring.table)
                calls = [parting, split_subring, form_of, basic_ring, lambda some: [room.tables for room in least_rooms(some)],
                         lambda some: [room.tables for room in free_rooms(some)], cartan, kinds]
                if is_basic(ring):
                    calls.append(picture)
                first = [call(ring) for call in calls]
                self.assertEqual([call(other) for call in calls[::-1]], first[::-1])

    def test_many_digits(self):
        """[0.1]: integers of more than sixty digits are invalid, those of sixty are let where any integer is."""
        most = 10 ** 60 - 1
        desk = Desk(F2)
        desk.do(("put", "a", Room.own(F2)))
        self.assertIs(desk.is_true(("size", "a", most)), False)
        self.assertEqual(F2.times(-most, F2.one), F2.times(1, F2.one))
        self.assertEqual(F2.power(F2.one, most), F2.one)

    def test_quotients_by_nil(self):
        """[10.4] once more, over all rings: the least rooms of the ring are those of the ring modulo J."""
        for prime in PRIMES:
            for ring in all_rings(prime)[::4]:
                if len(radical(ring)) < ring.size:
                    low = quotient_ring(ring, radical(ring))
                    self.assertEqual(sorted(room.size for room in least_rooms(low)), sorted(room.size for room in least_rooms(ring)))

    def test_texts_of_all(self):
        """What is written is read as it was, for all rings and rooms of the tests."""
        for prime in PRIMES:
            for ring in all_rings(prime):
                self.assertEqual(read_ring(write_ring(ring)), ring)
                for room in rooms_of(ring, 9)[::5]:
                    again = read_room(write_room(room))
                    self.assertEqual([again, again.ring], [room, ring])
                    if 0 < room.size <= 4:
                        try:
                            self.assertIsNotNone(alike_map(again, rebased_room(room, unit_rows(room.size)[::-1])))
                        except TooMany:
                            pass

    def test_the_rings_of_the_examples(self):
        self.assertEqual([len(kinds(ring)) for ring in (F2, U3, K9, S3, C4)], [1, 3, 1, 2, 1])


if __name__ == "__main__":
    unittest.main()
