"""Wrong arguments of the class of rooms, its methods, and the functions over rooms."""

import unittest

from tablerings.errors import (
    InvalidNumber, InvalidOperation, InvalidRing, InvalidRoom, InvalidRow, InvalidSpace, InvalidTable, Refused, TooMany,
)
from tablerings.rings.rings import Ring
from tablerings.rooms.free import (
    blocks_of_rooms, cartan, cover, free_rooms, free_sum, head_numbers, is_cover,
)
from tablerings.rooms.least import (
    are_least_rooms, is_room_paper, layers, least_rooms, list_of, radical_by_rooms, room_paper, socle_layers,
)
from tablerings.rooms.maps import (
    alike_map, are_parts, is_alike_map, is_map, is_split_paper, is_unlike_paper, map_number, maps, parts, self_ring,
    split_paper, times_in, unlike_paper,
)
from tablerings.rooms.pulled import (
    join_space, joined_room, lift_number, plain_joins, pulled, pulled_length, pulled_numbers,
)
from tablerings.rooms.rooms import (
    Room, is_subroom, quotient_room, rebased_room, room_killers, subroom, subroom_made, turned_room, vector_killers,
)
from tests.room_samples import twin_arrows, unit_rows
from tests.samples import F2, K9, PRIMES, junk, low_ring
from tests.test_wrong_rings import wrong_rings, wrong_squares
from tests.wrong import (
    Case, Parameter, run_case, without, wrong_integers, wrong_row_tuples, wrong_rows, wrong_spaces,
)


def wrong_rooms():
    """Values that are no rooms."""
    room = Room.own(K9)
    return junk() + [Room, (room,), [room], {"room": room}, room.tables, (K9, room.tables), "room", 3]


def ring_parameter(ring):
    return Parameter("ring", ring, InvalidRing, wrong_rings() + [Room.own(F2), Room.nothing(F2), Room])


def room_parameter(room, name="room"):
    return Parameter(name, room, InvalidRoom, wrong_rooms())


def value_parameter(value):
    return Parameter("value", value, None, [])


def line(prime, size):
    """A room of so many base vectors over the ring of size 1."""
    return Room(Ring.full(prime, 1), (unit_rows(size),))


def other_prime(prime):
    return 2 if prime > 2 else 3


def stairs_room(prime):
    """The room of the upper tables of side 2 by itself."""
    return Room.own(Ring.stairs(prime, 2))


def wrong_tables(prime):
    """Values that are no tables of a room over a ring of size 2."""
    two, three = unit_rows(2), unit_rows(3)
    return without(junk(), lambda value: value == ((), ())) + [
        (), ((),), ((), (), ()), (two,), (two, two, two), (two, three), (two, two[:1]), (two, list(two)), [two, two], (two, None),
        (two, ((1, 0), (0, True))), (two, ((1, 0), (0, prime))), (two, ((1, 0), (0, -1))), (two, ((1, 0), [0, 1])), ((two,), (two,)),
        (two, ((1, 0, 0), (0, 1, 0))), (unit_rows(41),) * 2, (((0,) * 41,) * 41,) * 2, (((),), ((),)), (two, ((1, 0), (0, 10 ** 60))),
        (two, "10"), ((1, 0), (0, 1)), two, (((1,), (0,)), ((0,), (1,))), (((1, 0),), ((0, 1),)),
    ]


def class_cases(prime):
    ring, two, nil = Ring.of_poly(prime, (0, 0, 1)), unit_rows(2), ((0, 0), (0, 0))
    high = ((0, 1), (0, 0))
    own, far = stairs_room(prime), Room.own(Ring.stairs(other_prime(prime), 2))
    refused = [((ring, (nil, high)), ("product", 0, 1)), ((ring, (two, two)), ("product", 1, 1)),
               ((ring, (nil, nil)), ("one",)), ((ring, (high, nil)), ("product", 0, 0)),
               ((ring, (((1, 0), (0, 0)), nil)), ("one",))]
    size39 = Room.side_by_side(line(prime, 20), line(prime, 19))
    return [
        Case("Room", Room, [ring_parameter(ring), Parameter("tables", (two, high), InvalidRoom, wrong_tables(prime))],
             [(values, Refused, "reason", reason) for values, reason in refused]),
        Case("own", Room.own, [ring_parameter(ring)]),
        Case("nothing", Room.nothing, [ring_parameter(ring)]),
        Case("side_by_side", Room.side_by_side, [room_parameter(own), room_parameter(own, "further")],
             [((own, far), InvalidOperation, None, None), ((far, own), InvalidOperation, None, None),
              ((size39, Room.own(Ring.full(other_prime(prime), 1))), InvalidOperation, None, None),
              ((size39, line(prime, 2)), TooMany, "most", 40), ((line(prime, 40), line(prime, 1)), TooMany, "most", 40)]),
        Case("led_by", own.led_by, [Parameter("member", (1, 1, 0), InvalidRow, wrong_rows(prime, 3)),
                                    Parameter("vector", (0, 1, 1), InvalidRow, wrong_rows(prime, 3))]),
    ]


def room_cases(prime):
    room = stairs_room(prime)
    first, value = room_parameter(room), value_parameter(((0, 1, 0),))
    spaces = wrong_spaces(prime, 3) + [((0, 0, 1),), ((1, 0, 1),), ((1, 1, 0), (0, 0, 1))]
    assert not any(is_subroom(room, space) for space in spaces)
    space = Parameter("space", ((0, 1, 0),), InvalidSpace, spaces)
    vectors = Parameter("vectors", ((0, 1, 0), (0, 1, 0)), InvalidRow, wrong_row_tuples(prime, 3, 100))
    square = Parameter("table", ((1, 0, 0), (1, 1, 0), (1, 1, 1)), InvalidTable, wrong_squares(prime, 3) + [
        ((0, 0, 0),) * 3, ((1, 0, 0), (0, 1, 0), (1, 1, 0))])
    return [
        Case("subroom_made", subroom_made, [first, vectors]),
        Case("is_subroom", is_subroom, [first, value]),
        Case("subroom", subroom, [first, space]),
        Case("quotient_room", quotient_room, [first, space]),
        Case("turned_room", turned_room, [first]),
        Case("rebased_room", rebased_room, [first, square]),
        Case("room_killers", room_killers, [first]),
        Case("vector_killers", vector_killers, [first, Parameter("vector", (1, 1, 0), InvalidRow, wrong_rows(prime, 3))]),
    ]


def least_cases(prime):
    room, ring = stairs_room(prime), Ring.stairs(prime, 2)
    first, whole, nothing = room_parameter(room), ring_parameter(ring), Room.nothing(ring)
    return [
        Case("room_paper", room_paper, [first], [((nothing,), Refused, "reason", ("nothing",))]),
        Case("is_room_paper", is_room_paper, [first, value_parameter(("subroom", ((0, 1, 0),)))]),
        Case("least_rooms", least_rooms, [whole]),
        Case("are_least_rooms", are_least_rooms, [whole, value_parameter(least_rooms(ring))]),
        Case("list_of", list_of, [first]),
        Case("layers", layers, [first]),
        Case("socle_layers", socle_layers, [first]),
        Case("radical_by_rooms", radical_by_rooms, [whole]),
    ]


def pair_refusals(prime):
    """What is refused of two rooms by functions over maps: unequal rings ahead of too great sizes."""
    room, far = stairs_room(prime), Room.own(Ring.stairs(other_prime(prime), 2))
    wide, high = line(prime, 29), line(prime, 5)
    return [((room, far), InvalidOperation, None, None), ((far, room), InvalidOperation, None, None),
            ((line(prime, 40), Room(Ring.full(other_prime(prime), 1), (unit_rows(40),))), InvalidOperation, None, None),
            ((Room.nothing(room.ring), Room.nothing(far.ring)), InvalidOperation, None, None),
            ((wide, high), TooMany, "most", 144), ((high, wide), TooMany, "most", 144), ((wide, wide), TooMany, "most", 144)]


def with_more(cases, *more):
    """Refused calls with further arguments."""
    return [(values + more, error, keeps, kept) for values, error, keeps, kept in cases]


def self_refusals(prime):
    """What is refused of a room by functions that need its self maps."""
    return [((line(prime, 13),), TooMany, "most", 144), ((line(prime, 40),), TooMany, "most", 144),
            ((line(prime, 7),), TooMany, "most", 40), ((line(prime, 12),), TooMany, "most", 40)]


def map_cases(prime):
    room = stairs_room(prime)
    pair = [room_parameter(room), room_parameter(room, "further")]
    value, pairs, selves = value_parameter(unit_rows(3)), pair_refusals(prime), self_refusals(prime)
    both = pairs + [((line(prime, 7), line(prime, 1)), TooMany, "most", 40), ((line(prime, 1), line(prime, 7)), TooMany, "most", 40),
                    ((line(prime, 7), line(prime, 13)), TooMany, "most", 40), ((line(prime, 13), line(prime, 7)), TooMany, "most", 144),
                    ((line(prime, 1), line(prime, 13)), TooMany, "most", 144), ((line(prime, 13), line(prime, 1)), TooMany, "most", 144)]
    nothing = [((Room.nothing(room.ring),), Refused, "reason", ("nothing",))]
    paper = split_paper(room)
    return [
        Case("maps", maps, pair, pairs),
        Case("map_number", map_number, pair, pairs),
        Case("is_map", is_map, pair + [value], with_more(pairs, ())),
        Case("alike_map", alike_map, pair, both),
        Case("is_alike_map", is_alike_map, pair + [value], with_more(pairs, ())),
        Case("split_paper", split_paper, pair[:1], nothing + selves),
        Case("is_split_paper", is_split_paper, pair[:1] + [value_parameter(paper)], with_more(nothing + selves, paper)),
        Case("parts", parts, pair[:1], selves),
        Case("are_parts", are_parts, pair[:1] + [value_parameter(parts(room))], with_more(selves, ())),
        Case("self_ring", self_ring, pair[:1],
             nothing + [((line(prime, 13),), TooMany, "most", 144), ((line(prime, 4),), TooMany, "most", 9)]),
        Case("unlike_paper", unlike_paper, pair, both),
        Case("is_unlike_paper", is_unlike_paper, pair + [value_parameter(None)], with_more(both, None)),
    ]


def times_cases(prime):
    room, point = stairs_room(prime), least_rooms(Ring.stairs(prime, 2))[0]
    nothing, wide = Room.nothing(room.ring), line(prime, 40)
    far = Room.own(Ring.stairs(other_prime(prime), 2))
    great = unsplittable_of_size_14(prime)
    then = [((point, far), InvalidOperation, None, None), ((nothing, far), InvalidOperation, None, None),
            ((line(prime, 4), wide), TooMany, "most", 144), ((line(prime, 13), line(prime, 12)), TooMany, "most", 144),
            ((nothing, room), Refused, "reason", ("nothing",)), ((nothing, nothing), Refused, "reason", ("nothing",)),
            ((line(prime, 13), line(prime, 1)), TooMany, "most", 144), ((line(prime, 7), line(prime, 1)), TooMany, "most", 40),
            ((great, Room.nothing(great.ring)), TooMany, "most", 144),
            ((line(prime, 3), wide), Refused, "reason", ("parts",)), ((line(prime, 6), line(prime, 1)), Refused, "reason", ("parts",)),
            ((room, room), Refused, "reason", ("parts",)), ((room, nothing), Refused, "reason", ("parts",))]
    return [Case("times_in", times_in, [room_parameter(point, "part"), room_parameter(room)], then)]


def unsplittable_of_size_14(prime):
    """A room of size 14 that is no sum of two."""
    ring = twin_arrows(prime)
    tables = [[[0] * 14 for _ in range(14)] for _ in range(4)]
    for at in range(7):
        tables[0][at][at] = tables[1][7 + at][7 + at] = tables[2][7 + at][at] = 1
        if at < 6:
            tables[3][7 + at][at + 1] = 1
    return Room(ring, tuple(tuple(tuple(row) for row in table) for table in tables))


def wrong_numbers():
    """Values that are no tuples of two integers from 0 on."""
    values = junk() + [(1,), (1, 1, 1), (1, -1), (True, 1), (1, False), [1, 1], (1, None), (1, "1"), (10 ** 60, 1), (1, 10 ** 60), 1,
                       (1, (1,)), (-1, 1)]
    return without(values, lambda value: isinstance(value, tuple) and len(value) == 2 and all(
        type(number) is int and 0 <= number < 10 ** 60 for number in value))


def free_cases(prime):
    room, ring = stairs_room(prime), Ring.stairs(prime, 2)
    first, whole, low = room_parameter(room), ring_parameter(ring), low_ring(prime, 9)
    point = least_rooms(low)[0]
    many = Room.side_by_side(Room.side_by_side(point, point), Room.side_by_side(point, Room.side_by_side(point, point)))
    return [
        Case("free_rooms", free_rooms, [whole]),
        Case("free_sum", free_sum, [whole, Parameter("numbers", (2, 1), InvalidNumber, wrong_numbers(), "given")],
             [((ring, (41, 0)), TooMany, "most", 40), ((ring, (0, 10 ** 60 - 1)), TooMany, "most", 40), ((low, (5,)), TooMany, "most", 40)]),
        Case("head_numbers", head_numbers, [first]),
        Case("cover", cover, [first], [((many,), TooMany, "most", 40)]),
        Case("is_cover", is_cover, [first, value_parameter(cover(room))]),
        Case("cartan", cartan, [whole]),
        Case("blocks_of_rooms", blocks_of_rooms, [whole]),
    ]


def pulled_cases(prime):
    room, far = stairs_room(prime), Room.own(Ring.stairs(other_prime(prime), 2))
    pair, low = [room_parameter(room), room_parameter(room, "further")], low_ring(prime, 9)
    point = least_rooms(low)[0]
    five = Room.side_by_side(Room.side_by_side(point, point), Room.side_by_side(point, Room.side_by_side(point, point)))
    steps = Parameter("steps", 2, InvalidNumber, wrong_integers(0, 4), "given")
    step = Parameter("step", 1, InvalidNumber, wrong_integers(0, 3), "given")
    unequal = [((room, far), InvalidOperation, None, None), ((far, room), InvalidOperation, None, None)]
    great = [((line(prime, 13), line(prime, 12)), TooMany, "most", 150), ((line(prime, 40), line(prime, 40)), TooMany, "most", 150)]
    wrong = wrong_rows(prime, 27) + [(1,) * 27, (0,) * 26 + (1,), (1,) + (0,) * 26]
    joins = [((line(prime, 13), line(prime, 12), (0,) * 156), TooMany, "most", 150),
             ((line(prime, 40), line(prime, 5), (0,) * 200), TooMany, "most", 150),
             ((line(prime, 40), line(prime, 3), (0,) * 120), TooMany, "most", 40),
             ((line(prime, 40), line(prime, 3), (1,) + (0,) * 119), InvalidRow, None, None),
             ((line(prime, 13), line(prime, 12), (0,) * 155 + (1,)), InvalidRow, None, None)]
    joins += [((room, far, row), InvalidOperation, None, None) for row in (None, (0,) * 27, (1,) * 27, "row")]
    return [
        Case("pulled", pulled, pair[:1], [((five,), TooMany, "most", 40)]),
        Case("pulled_numbers", pulled_numbers, [pair[0], steps], [((five, 1), TooMany, "most", 40), ((point, 4), TooMany, "most", 40)]),
        Case("pulled_length", pulled_length, pair[:1], [((five,), TooMany, "most", 40)]),
        Case("lift_number", lift_number, pair + [step],
             with_more(unequal, 1) + [((five, far, 2), InvalidOperation, None, None), ((five, Room.own(low), 1), TooMany, "most", 40),
                                      ((line(prime, 13), line(prime, 12), 0), TooMany, "most", 144),
                                      ((line(prime, 13), line(prime, 12), 1), TooMany, "most", 144)]),
        Case("join_space", join_space, pair, unequal + great),
        Case("plain_joins", plain_joins, pair, unequal + great),
        Case("joined_room", joined_room, pair + [Parameter("join", (0,) * 27, InvalidRow, wrong)], joins[:3]),
        Case("joined_room", joined_room, pair + [Parameter("join", (0,) * 27, None, [])], joins[3:]),
    ]


class WrongArgumentsTest(unittest.TestCase):
    def run_all(self, cases):
        for prime in PRIMES:
            for case in cases(prime):
                run_case(self, case)

    def test_the_class(self):
        self.run_all(class_cases)

    def test_rooms(self):
        self.run_all(room_cases)

    def test_least_rooms(self):
        self.run_all(least_cases)

    def test_maps(self):
        self.run_all(map_cases)

    def test_times(self):
        self.run_all(times_cases)

    def test_free_rooms(self):
        self.run_all(free_cases)

    def test_pulled_rooms(self):
        self.run_all(pulled_cases)

    def test_what_is_right_next_to_it(self):
        """The greatest sizes that are let."""
        for prime in PRIMES:
            self.assertEqual([map_number(line(prime, 12), line(prime, 12)), map_number(line(prime, 36), line(prime, 4))], [144, 144])
            self.assertEqual([len(parts(line(prime, 6))), times_in(line(prime, 1), line(prime, 40))], [6, 40])
            self.assertIsNotNone(alike_map(line(prime, 6), line(prime, 6)))
            self.assertEqual(free_sum(Ring.stairs(prime, 2), (0, 0)).size, 0)
            self.assertEqual(sorted(free_sum(Ring.stairs(prime, 2), pair).size for pair in ((0, 20), (20, 0))), [20, 40])
            self.assertEqual(join_space(line(prime, 15), line(prime, 10)), ())
            self.assertEqual(lift_number(line(prime, 12), line(prime, 12), 3), 0)


if __name__ == "__main__":
    unittest.main()
