"""Wrong arguments of the functions of full tables over fields, of rings of one line, of desks and of texts."""

import unittest

from tablerings.desk.desk import Desk
from tablerings.errors import (
    InvalidNumber, InvalidOperation, InvalidRing, InvalidRoom, InvalidRow, InvalidSpace, Refused, TooMany,
)
from tablerings.full.fields import (
    double_centralizer, field_ring, full_kind, full_over, is_leading_map, is_leading_unit_of, leading_unit_of, pair_number,
    pairs_counted, signed_sum,
)
from tablerings.rings.rings import Ring
from tablerings.rooms.lines import is_line_ring, ladder_lengths, next_heads, room_of_stretch, stretch_maps, stretches
from tablerings.rooms.rooms import Room
from tablerings.text.texts import write_ring, write_room, write_space
from tests.samples import F2, PRIMES, junk, low_ring
from tests.test_wrong_full import ring_parameter, value_parameter
from tests.test_wrong_rings import wrong_rings
from tests.test_wrong_rooms import room_parameter
from tests.wrong import (
    Case, Parameter, run_case, without, wrong_integers, wrong_primes, wrong_row_tuples, wrong_spaces,
)


def number_cases(prime):
    known = Parameter("prime", prime, InvalidNumber, wrong_primes(), "given")
    degree = Parameter("degree", 2, InvalidNumber, wrong_integers(1, 6), "given")
    side = Parameter("side", 2, InvalidNumber, wrong_integers(1, 3), "given")
    then = [((prime, degree_told, side_told), TooMany, "most", 9)
            for degree_told, side_told in ((2, 3), (3, 2), (6, 2), (6, 3), (4, 2), (5, 3))]
    return [
        Case("field_ring", field_ring, [known, degree]),
        Case("full_over", full_over, [known, degree, side], then),
        Case("pair_number", pair_number, [known, degree, side], then),
    ]


def wrong_tuples(prime, width, most):
    """Values that are no tuples of one to so many rows of the width."""
    return wrong_row_tuples(prime, width, most) + [()]


def leading_cases(prime):
    ring = Ring.full(prime, 2)
    first, row = ring_parameter(ring), (0, 1, 0, 0)
    one, other = (Parameter(name, (row, row), InvalidRow, wrong_tuples(prime, 4, 4)) for name in ("one", "other"))
    rings = [(Ring.of_poly(prime, (0, 0, 0, 0, 1)), row), (Ring.both(Ring.stairs(prime, 2), Ring.full(prime, 1)), row)]
    full = [((some, (unit,), others), Refused, "reason", ("full",)) for some, unit in rings for others in ((unit,), (unit, unit))]
    lengths = [((ring, (row,), (row, row)), InvalidOperation, None, None), ((ring, (row,) * 4, (row,)), InvalidOperation, None, None)]
    wide = Ring.full(prime, 3)
    many = [((wide, (wide.one,), (wide.one,)), TooMany, "most", 5000)] if prime > 2 else []
    members = Parameter("members", (row, row), InvalidRow, wrong_row_tuples(prime, 4, 100))
    alone = Parameter("members", (row, row), InvalidRow, wrong_tuples(prime, 4, 6))
    return [
        Case("full_kind", full_kind, [first], [((some,), Refused, "reason", ("full",)) for some, _ in rings]),
        Case("double_centralizer", double_centralizer, [first, members],
             [((some, (unit,)), Refused, "reason", ("full",)) for some, unit in rings]),
        Case("is_leading_map", is_leading_map, [first, one, other], full + lengths),
        Case("leading_unit_of", leading_unit_of, [first, one, other], full + lengths + many),
        Case("is_leading_unit_of", is_leading_unit_of, [first, one, other, value_parameter(ring.one)],
             [(values + (ring.one,), error, keeps, kept) for values, error, keeps, kept in full + lengths]),
        Case("pairs_counted", pairs_counted, [first], [((Ring.of_poly(prime, (0,) * 9 + (1,)),), TooMany, "most", 5000)] if prime > 2 else []),
        Case("signed_sum", signed_sum, [first, alone]),
    ]


def wrong_stretches():
    """Values that are no pairs of 0 or 1 and of an integer from 1 on."""
    return junk() + [(0,), (0, 1, 1), [0, 1], (2, 1), (-1, 1), (True, 1), (False, 1), (0, 0), (0, -1), (0, True), (0, "1"), ("0", 1), (0, None),
                     (None, 1), (0, 10 ** 60), (10 ** 60, 1), (0, (1,)), {0: 1}, 0, 1, "01", (0, 10 ** 99)]


def line_cases(prime):
    ring, other = Ring.stairs(prime, 2), low_ring(prime, 3)
    first, room = ring_parameter(ring), room_parameter(Room.own(ring))
    long = ladder_lengths(ring).index(2)
    head = Parameter("head", long, InvalidNumber, wrong_integers(0, 1), "given")
    lengths = without(wrong_integers(1, 1), lambda value: type(value) is int and 1 <= value < 10 ** 60)
    length = Parameter("length", 2, InvalidNumber, lengths, "given")
    pairs = [Parameter(name, (long, 2), InvalidOperation, wrong_stretches()) for name in ("one", "other")]
    refused = ("lines",)
    return [
        Case("is_line_ring", is_line_ring, [first]),
        Case("ladder_lengths", ladder_lengths, [first], [((other,), Refused, "reason", refused)]),
        Case("next_heads", next_heads, [first], [((other,), Refused, "reason", refused)]),
        Case("stretches", stretches, [room], [((Room.own(other),), Refused, "reason", refused), ((Room.nothing(other),), Refused, "reason", refused)]),
        Case("room_of_stretch", room_of_stretch, [first, head, length],
             [((other, 0, 1), Refused, "reason", refused), ((other, 0, 77), Refused, "reason", refused), ((ring, long, 3), InvalidOperation, None, None),
              ((ring, 1 - long, 2), InvalidOperation, None, None), ((ring, long, 10 ** 60 - 1), InvalidOperation, None, None)]),
        Case("stretch_maps", stretch_maps, [first] + pairs,
             [((other, (0, 1), (0, 77)), Refused, "reason", refused), ((ring, (long, 3), (long, 1)), InvalidOperation, None, None),
              ((ring, (long, 1), (1 - long, 2)), InvalidOperation, None, None)]),
    ]


def text_cases(prime):
    ring = Ring.stairs(prime, 2)
    return [
        Case("write_space", write_space, [
            Parameter("prime", prime, InvalidNumber, wrong_primes(), "given"), Parameter("width", 3, InvalidNumber, wrong_integers(1, 150), "given"),
            Parameter("space", ((1, 0, 1), (0, 1, 0)), InvalidSpace, wrong_spaces(prime, 3))]),
        Case("write_ring", write_ring, [ring_parameter(ring)]),
        Case("write_room", write_room, [room_parameter(Room.own(ring))]),
        Case("Desk", Desk, [ring_parameter(ring)]),
    ]


class WrongArgumentsTest(unittest.TestCase):
    def run_all(self, cases):
        for prime in PRIMES:
            for case in cases(prime):
                run_case(self, case)

    def test_numbers(self):
        self.run_all(number_cases)

    def test_leading(self):
        self.run_all(leading_cases)

    def test_lines(self):
        self.run_all(line_cases)

    def test_texts(self):
        self.run_all(text_cases)

    def test_rings_and_rooms_are_told_first(self):
        for wrong in wrong_rings() + [Room.own(F2)]:
            self.assertRaises(InvalidRing, is_leading_unit_of, wrong, None, None, None)
            self.assertRaises(InvalidRing, room_of_stretch, wrong, None, None)
            self.assertRaises(InvalidRing, signed_sum, wrong, None)
            self.assertRaises(InvalidRoom, stretches, wrong if not isinstance(wrong, Room) else F2)

    def test_what_is_right_next_to_it(self):
        for prime in PRIMES:
            ring = Ring.full(prime, 2)
            row = ring.one
            self.assertEqual(double_centralizer(ring, (row,) * 100), ((1, 0, 0, 1),))
            self.assertEqual([signed_sum(ring, (row,)), signed_sum(ring, (row,) * 6)], [row, (0,) * 4])
            self.assertIs(is_leading_map(ring, (row,) * 4, (row,) * 4), True)
            self.assertEqual([full_over(prime, 2, 2).size, full_over(prime, 1, 3).size, field_ring(prime, 6).size], [8, 9, 6])
            self.assertEqual(pair_number(prime, 6, 1), prime ** 12)
            self.assertEqual(write_space(prime, 150, ()), f"space {prime} 150")


if __name__ == "__main__":
    unittest.main()
