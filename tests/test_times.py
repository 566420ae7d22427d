"""How long calls at rings of size 4 to 6 take, beside products that are made entry by entry on the same machine."""

import time
import unittest

from tablerings.desk.desk import Desk
from tablerings.full.fields import (
    double_centralizer, field_ring, full_kind, full_over, is_leading_map, is_leading_unit_of, leading_unit_of, pair_number,
    pairs_counted, signed_sum,
)
from tablerings.rings.changes import (
    change_of, change_sizes, change_source, derivations, inner_derivations, is_closed, is_derivation, is_splitter,
    lift_ring, splitter,
)
from tablerings.rings.forms import (
    even_form, form_of, form_table, form_value, is_even_form, is_form, is_no_form_paper, no_form_paper, turn, turn_by,
)
from tablerings.rings.idempotents import parting
from tablerings.rings.rings import Ring
from tablerings.rooms.lines import is_line_ring, ladder_lengths, next_heads, room_of_stretch, stretch_maps, stretches
from tablerings.rooms.rooms import Room
from tablerings.text.texts import read_ring, read_room, read_space, write_ring, write_room, write_space
from tablerings.webs.webs import arrow_numbers, basic_ring, is_basic, is_picture, picture, web_paths, web_ring
from tests.room_samples import unit_rows
from tests.samples import F2, PRIMES, S3, multiplied, rows_of, turned

# Thirty milliseconds where the products below take half of one.
BOUND = 60


def measured():
    """Products that are made entry by entry."""
    return [multiplied(F2, row, other) for row in rows_of(2, 4)[::2] for other in rows_of(2, 4)[::2]]


def time_of(call, *values):
    """The least time that a call takes, of three."""
    times = []
    for _ in range(3):
        start = time.perf_counter()
        call(*values)
        times.append(time.perf_counter() - start)
    return min(times)


def fresh(ring):
    """An equal ring of which nothing is found yet."""
    return Ring(ring.prime, ring.table)


def line_rings(prime):
    """Rings of one line of size 4 to 6."""
    rings = [Ring.full(prime, 2), Ring.stairs(prime, 3), Ring.of_poly(prime, (0,) * 5 + (1,)), Ring.both(Ring.stairs(prime, 2), Ring.stairs(prime, 2))]
    return rings + turned(rings, 6)


class TimeTest(unittest.TestCase):
    def check(self, name, call, *values):
        """A call ends within the bound; a machine that was busy for a moment is asked once more."""
        for _ in range(3):
            if time_of(call, *values) < BOUND * time_of(measured):
                return
        self.fail(name)

    def check_all(self, ring, calls):
        for call in calls:
            self.check(getattr(call, "__name__", "call"), lambda: call(fresh(ring)))

    def test_changes(self):
        for prime in PRIMES:
            for ring in line_rings(prime):
                size = ring.size
                f = change_of(ring, ring.table[1])
                self.check_all(ring, [derivations, inner_derivations, splitter, lambda some: is_closed(some, f), lambda some: change_of(some, some.table[0]),
                                      lambda some: is_derivation(some, unit_rows(size)), lambda some: is_splitter(some, some.table[0])])
                if size == 4:
                    self.check_all(ring, [change_sizes, lambda some: change_source(some, f), lambda some: lift_ring(some, f)])

    def test_webs(self):
        for prime in PRIMES:
            for ring in line_rings(prime):
                self.check_all(ring, [is_basic, basic_ring, lambda some: arrow_numbers(some, parting(some))])
                if is_basic(ring):
                    found = picture(ring)
                    self.check_all(ring, [picture, lambda some: is_picture(some, found)])
            web = (prime, 3, ((0, 1), (1, 2)), (), 3)
            loops = (prime, 1, ((0, 0), (0, 0)), ({(0, 1): 1}, {(1, 0): 1}, {(1, 1): 1}), 5)
            for call in (web_ring, web_paths):
                self.check(call.__name__, call, *web)
                self.check(call.__name__, call, *loops)

    def test_forms(self):
        for prime in PRIMES:
            for ring in line_rings(prime) + [Ring.of_moves(prime, ((1, 0, 2), (1, 2, 0)))]:
                row, form = ring.one, form_of(ring)
                self.check_all(ring, [form_of, no_form_paper, lambda some: form_value(some, row, row), lambda some: form_table(some, row),
                                      lambda some: is_form(some, row), lambda some: is_even_form(some, row), lambda some: is_no_form_paper(some, (Room.own(some), 1, 2))])
                if ring.many <= 5000:
                    self.check_all(ring, [even_form])
                if form is not None:
                    self.check_all(ring, [lambda some: turn(some, form), lambda some: turn_by(some, form, row)])

    def test_fields(self):
        for prime in PRIMES:
            for ring in (full_over(prime, 1, 2), full_over(prime, 4, 1), full_over(prime, 5, 1)):
                for some in [ring] + turned([ring], 4):
                    row, other = unit_rows(some.size)[0], unit_rows(some.size)[1]
                    calls = [full_kind, lambda low: double_centralizer(low, (row,)), lambda low: is_leading_map(low, (row,), (other,)),
                             lambda low: is_leading_unit_of(low, (row,), (other,), low.one), lambda low: signed_sum(low, (row, other) * 3)]
                    if some.many <= 5000:
                        calls += [pairs_counted, lambda low: leading_unit_of(low, (row,), (other,)), lambda low: leading_unit_of(low, (row,), (row,))]
                    self.check_all(some, calls)
            for degree in range(1, 7):
                self.check("field_ring", field_ring, prime, degree)
            self.check("full_over", full_over, prime, 1, 2)
            self.check("pair_number", pair_number, prime, 2, 2)
        self.check("pairs_counted", pairs_counted, S3)

    def test_lines(self):
        for prime in PRIMES:
            for ring in line_rings(prime):
                self.check_all(ring, [is_line_ring, ladder_lengths, next_heads, lambda some: stretches(Room.own(some)),
                                      lambda some: room_of_stretch(some, 0, 1), lambda some: stretch_maps(some, (0, 1), (0, 1))])

    def test_desks(self):
        for prime in PRIMES:
            for ring in line_rings(prime)[::2]:
                own = Room.own(ring)

                def made():
                    """A desk with a room, a lesser one, and one by another base."""
                    desk = Desk(ring)
                    desk.do(("put", "a", Room(ring, own.tables)), ("same", "b", "a"), ("below", "b", (unit_rows(ring.size)[0],)), ("same", "c", "a"),
                            ("rebase", "c", unit_rows(ring.size)[::-1]))
                    return desk

                self.check("do", made)
                for saying in (("size", "a", 4), ("least", "a"), ("unsplit", "a"), ("alike", "a", "c"), ("unlike", "a", "b"), ("maps", "a", "b", 1),
                               ("killed", "a", ring.one)):
                    self.check("is_true", lambda: made().is_true(saying))
                desk = made()
                desk.say(("alike", "a", "c"))
                self.check("do", lambda: [desk.do(("rebase", "a", unit_rows(ring.size)[::-1])), desk.undo()])
                self.check("twin", desk.twin)

    def test_texts(self):
        for prime in PRIMES:
            for ring in line_rings(prime)[::2]:
                text, room = write_ring(ring), write_room(Room.own(ring))
                for call, value in ((write_ring, ring), (read_ring, text), (write_room, Room.own(ring)), (read_room, room)):
                    self.check(call.__name__, call, value)
            space = write_space(prime, 40, unit_rows(40))
            self.check("read_space", read_space, space)


if __name__ == "__main__":
    unittest.main()
