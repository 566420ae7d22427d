"""Forms of rings [16.1] to [16.6]."""

import itertools
import random
import unittest

from tablerings.base.lines import kernel_rows
from tablerings.base.polys import first_irreducible
from tablerings.base.spaces import does_hold, followed, image, led, space_of, undone_table
from tablerings.errors import InvalidOperation, InvalidRow, Refused, TooMany
from tablerings.rings import forms
from tablerings.rings.forms import (
    even_form, form_of, form_table, form_value, is_even_form, is_form, is_no_form_paper, no_form_paper, turn, turn_by,
)
from tablerings.rings.full import unit_number
from tablerings.rings.ideals import ideal_made, killers
from tablerings.rings.radical import radical, socle
from tablerings.rings.rings import Ring, is_subring, opposite, rebased
from tablerings.rooms.least import least_rooms, list_of
from tablerings.rooms.maps import alike_map
from tablerings.rooms.pulled import pulled_length
from tablerings.rooms.rooms import Room, quotient_room, subroom
from tests.room_samples import rebased_by_chance, rooms_of, twin_arrows
from tests.samples import (
    C4, F2, K9, N4, PRIMES, S3, U3, all_rings, great_rings, junk, low_ring, multiplied, rows_of, some_rows, turned,
    units_by_trial,
)


def units(size):
    """The base members."""
    return tuple(tuple(1 if i == j else 0 for j in range(size)) for i in range(size))


def value(ring, form, member):
    """The sum of all f[i] x[i]."""
    return sum(a * b for a, b in zip(form, member)) % ring.prime


def products(ring):
    """The products of all pairs of members."""
    members = rows_of(ring.prime, ring.size)
    return {(x, y): ring.product(x, y) for x in members for y in members}


def is_form_by_words(ring, made, form):
    """Only x = 0 has f(x y) = 0 for all y."""
    members = rows_of(ring.prime, ring.size)
    return not any(any(x) and all(value(ring, form, made[x, y]) == 0 for y in members) for x in members)


def is_form_on_the_other_side(ring, made, form):
    """Only y = 0 has f(x y) = 0 for all x."""
    members = rows_of(ring.prime, ring.size)
    return not any(any(y) and all(value(ring, form, made[x, y]) == 0 for x in members) for y in members)


def is_even_by_words(ring, form):
    """f(x y) is f(y x) for all base members, and so for all members."""
    e = units(ring.size)
    return all(value(ring, form, multiplied(ring, x, y)) == value(ring, form, multiplied(ring, y, x)) for x in e for y in e)


def bent_ring(prime, number):
    """The ring with the base members 1, x, y, x y, x x = y y = 0 and y x the number times x y."""
    products = {(1, 2): (0, 0, 0, 1), (2, 1): (0, 0, 0, number % prime)}

    def product(i, j):
        return units(4)[i + j] if i == 0 or j == 0 else products.get((i, j), (0, 0, 0, 0))

    return Ring(prime, tuple(tuple(product(i, j) for j in range(4)) for i in range(4)))


def with_bent(prime):
    """Rings of many kinds, some of which have forms that are not even."""
    return all_rings(prime) + [bent_ring(prime, -1), turned([bent_ring(prime, -1)], 3)[0], bent_ring(prime, 2), Ring.stairs(prime, 1)]


def small_rings(prime):
    """Rings of at most 81 members."""
    return [ring for ring in with_bent(prime) if ring.many <= 81]


def counts(ring):
    """How often each least room stands in the socle of the ring by itself, and in its head."""
    own = Room.own(ring)
    return list(zip(least_rooms(ring), list_of(subroom(own, socle(ring))), list_of(quotient_room(own, radical(ring)))))


class FormTest(unittest.TestCase):
    def test_constants(self):
        self.assertEqual(forms.MAX_TRIED, 5000)

    def test_values_and_tables(self):
        """[16.1]"""
        for prime in PRIMES:
            for ring in with_bent(prime) + great_rings(prime)[::4]:
                e = units(ring.size)
                for form in some_rows(prime, ring.size, 3, 1) + [(0,) * ring.size]:
                    for member in some_rows(prime, ring.size, 3, 2):
                        self.assertEqual(form_value(ring, form, member), value(ring, form, member))
                    self.assertEqual(form_table(ring, form), tuple(tuple(value(ring, form, multiplied(ring, x, y)) for y in e) for x in e))
                    full = len(image(prime, form_table(ring, form))) == ring.size
                    self.assertIs(is_form(ring, form), full)
                    self.assertIs(is_even_form(ring, form), full and is_even_by_words(ring, form))

    def test_all_rows_of_small_rings(self):
        """[16.1], [16.2]: the forms are those of one form and of all units, so they are as many as the units."""
        seen = {True: 0, False: 0}
        for prime in PRIMES:
            for ring in small_rings(prime):
                made = products(ring)
                right = []
                for form in rows_of(prime, ring.size):
                    told = is_form_by_words(ring, made, form)
                    self.assertEqual(told, is_form_on_the_other_side(ring, made, form))
                    self.assertIs(is_form(ring, form), told)
                    self.assertIs(is_even_form(ring, form), told and is_even_by_words(ring, form))
                    if told:
                        right.append(form)
                found, even = form_of(ring), even_form(ring)
                seen[bool(right)] += 1
                self.assertEqual([found is not None, even is not None], [bool(right), any(is_even_by_words(ring, form) for form in right)])
                if right:
                    self.assertIn(found, right)
                    some = units_by_trial(ring)
                    self.assertEqual(sorted(right), sorted({tuple(value(ring, found, made[x, u]) for x in units(ring.size)) for u in some}))
                    self.assertEqual(len(right), unit_number(ring))
                if even is not None:
                    self.assertTrue(even in right and is_even_by_words(ring, even))
        self.assertGreater(min(seen.values()), 10)

    def test_forms_or_papers(self):
        """[16.2]: a form, or a least room that stands unequally often in socle and head, never both."""
        seen = {True: 0, False: 0}
        for prime in PRIMES:
            for ring in with_bent(prime) + great_rings(prime) + turned(great_rings(prime), 2) + [twin_arrows(prime)]:
                form, paper = form_of(ring), no_form_paper(ring)
                unequal = [row for row in counts(ring) if row[1] != row[2]]
                self.assertEqual([form is None, paper is None], [bool(unequal), not unequal])
                seen[form is None] += 1
                self.assertIs(is_form(ring, form), form is not None)
                self.assertIs(is_no_form_paper(ring, paper), paper is not None)
                if paper is not None:
                    told = [row for row in unequal if alike_map(row[0], paper[0]) is not None]
                    self.assertEqual([len(told), told[0][1:]], [1, paper[1:]])
                self.assertEqual(form_of(ring), form)
        self.assertGreater(min(seen.values()), 40)

    def test_judges(self):
        for prime in PRIMES:
            for ring in (Ring.full(prime, 2), Ring.of_poly(prime, (0, 0, 1)), Ring.full(prime, 1)):
                right = form_of(ring)
                wrong = [list(right), right[1:], right + (0,), (right,), tuple(map(str, right)), (True,) + right[1:], (prime,) + right[1:],
                         right[:-1] + (10 ** 99,), (0,) * ring.size, None]
                for call in (is_form, is_even_form):
                    for other in junk() + wrong:
                        self.assertIs(call(ring, other), False)


class PaperTest(unittest.TestCase):
    def test_papers_of_others(self):
        """All least rooms with unlike numbers are let, told by any base, and nothing else."""
        for prime in PRIMES:
            for ring in (Ring.stairs(prime, 2), Ring.stairs(prime, 3), low_ring(prime, 3), twin_arrows(prime),
                         Ring.both(Ring.stairs(prime, 2), Ring.full(prime, 2)), turned([Ring.stairs(prime, 3)], 4)[0]):
                for room, low, high in counts(ring):
                    for some in (room, rebased_by_chance(room, prime)):
                        self.assertIs(is_no_form_paper(ring, (some, low, high)), low != high)
                        for wrong in ((some, high, low), (some, low, high + 1), (some, low, low), (some, low), (some, low, high, 0),
                                      [some, low, high], (some, str(low), high), (low, high, some), (some, low, None), (some, -low - 1, high)):
                            self.assertIs(is_no_form_paper(ring, wrong), False)
                        self.assertIs(is_no_form_paper(ring, (some, bool(low), high)), False)
                        self.assertIs(is_no_form_paper(ring, (some, low, bool(high))), False)
                own, nothing = Room.own(ring), Room.nothing(ring)
                for some in (own, nothing, Room.side_by_side(counts(ring)[0][0], counts(ring)[0][0]), Room.own(Ring.full(prime, 1))):
                    for low, high in itertools.product(range(4), repeat=2):
                        self.assertIs(is_no_form_paper(ring, (some, low, high)), False)
                for value_judged in junk() + [None, (), (None, 0, 1), (ring, 0, 1)]:
                    self.assertIs(is_no_form_paper(ring, value_judged), False)

    def test_rings_with_a_form(self):
        for prime in PRIMES:
            for ring in (Ring.full(prime, 2), Ring.of_poly(prime, (0, 0, 1)), bent_ring(prime, -1)):
                self.assertEqual(no_form_paper(ring), None)
                for room, low, high in counts(ring):
                    self.assertEqual(low, high)
                    for one, other in itertools.product(range(4), repeat=2):
                        self.assertIs(is_no_form_paper(ring, (room, one, other)), False)
                self.assertIs(is_no_form_paper(ring, None), False)

    def test_least_rooms_of_equal_rings(self):
        """A room over an equal ring is let, one over another ring is not."""
        for prime in PRIMES:
            ring, again = Ring.stairs(prime, 2), Ring.stairs(prime, 2)
            room, low, high = no_form_paper(again)
            self.assertIs(is_no_form_paper(ring, (room, low, high)), True)
            other = rebased(ring, ((1, 1, 0), (0, 1, 0), (0, 0, 1)))
            self.assertIs(is_no_form_paper(other, (room, low, high)), False)
            self.assertIs(is_no_form_paper(opposite(ring), (room, low, high)), False)


class KnownTest(unittest.TestCase):
    """[16.3]"""

    def test_full_tables(self):
        for prime in PRIMES:
            for side in (1, 2, 3):
                ring = Ring.full(prime, side)
                trace = tuple(1 if i == j else 0 for i in range(side) for j in range(side))
                self.assertIs(is_even_form(ring, trace), True)
                self.assertIs(is_form(ring, trace), True)

    def test_renamings(self):
        for prime in PRIMES:
            for moves in (((0,),), ((1, 0),), ((1, 2, 0),), ((1, 0, 2), (1, 2, 0)), ((1, 0, 3, 2), (2, 3, 0, 1)), ((1, 2, 3, 4, 5, 6, 7, 8, 0),)):
                ring = Ring.of_moves(prime, moves)
                self.assertIs(is_even_form(ring, (1,) + (0,) * (ring.size - 1)), True)
                if prime ** len(even_rows(ring)) <= 5000:
                    self.assertIs(is_even_form(ring, even_form(ring)), True)

    def test_fields(self):
        for prime in PRIMES:
            for degree in (1, 2, 3):
                ring = Ring.of_poly(prime, first_irreducible(prime, degree))
                for form in rows_of(prime, degree):
                    self.assertIs(is_even_form(ring, form), any(form))

    def test_both(self):
        for prime in PRIMES:
            rings = [Ring.full(prime, 1), Ring.full(prime, 2), Ring.stairs(prime, 2), Ring.of_poly(prime, (0, 0, 1)), low_ring(prime, 3), bent_ring(prime, -1)]
            for one, other in itertools.product(rings, repeat=2):
                both = Ring.both(one, other)
                self.assertEqual(form_of(both) is None, form_of(one) is None or form_of(other) is None)
                if prime ** len(even_rows(both)) <= 5000:
                    self.assertEqual(even_form(both) is None, even_form(one) is None or even_form(other) is None)

    def test_opposite_rings(self):
        for prime in PRIMES:
            for ring in with_bent(prime)[::2]:
                mirror, form = opposite(ring), form_of(ring)
                self.assertEqual(form_of(mirror) is None, form is None)
                for row in some_rows(prime, ring.size, 3, 5) + ([form] if form else []):
                    self.assertEqual([is_form(mirror, row), is_even_form(mirror, row)], [is_form(ring, row), is_even_form(ring, row)])

    def test_stairs(self):
        for prime in PRIMES:
            for side in (2, 3):
                ring = Ring.stairs(prime, side)
                self.assertEqual([form_of(ring), even_form(ring)], [None, None])
            self.assertIs(is_form(Ring.stairs(prime, 1), (1,)), True)


def even_rows(ring):
    """A base of the rows f with f(x y) = f(y x) for all x and y."""
    rows = [tuple(multiplied(ring, x, y)[k] - multiplied(ring, y, x)[k] for x in units(ring.size) for y in units(ring.size))
            for k in range(ring.size)]
    return kernel_rows(ring.prime, [tuple(number % ring.prime for number in row) for row in rows])


class EvenTest(unittest.TestCase):
    def test_even_forms(self):
        seen = {"form": 0, "none": 0, "many": 0}
        for prime in PRIMES:
            for ring in with_bent(prime) + turned(great_rings(prime), 7):
                rows = even_rows(ring)
                if prime ** len(rows) > 5000:
                    with self.assertRaises(TooMany) as caught:
                        even_form(ring)
                    self.assertEqual(caught.exception.most, 5000)
                    seen["many"] += 1
                    continue
                found = even_form(ring)
                self.assertIs(is_even_form(ring, found), found is not None)
                if found is not None:
                    self.assertTrue(is_even_by_words(ring, found))
                    seen["form"] += 1
                else:
                    # No row of them is a form, tried one by one.
                    if prime ** len(rows) <= 130:
                        for numbers in itertools.product(range(prime), repeat=len(rows)):
                            row = tuple(sum(a * some[k] for a, some in zip(numbers, rows)) % prime for k in range(ring.size))
                            self.assertIs(is_form(ring, row), False)
                    seen["none"] += 1
        self.assertGreater(min(seen.values()), 5)

    def test_at_the_edge(self):
        """5 ** 5 and 7 ** 4 rows are tried, and so are 3 ** 7; 5 ** 6, 7 ** 5 and 3 ** 8 are too many."""
        for prime, size in ((5, 5), (7, 4), (3, 7), (2, 9)):
            for poly in ((0,) * size + (1,), (1,) + (0,) * (size - 1) + (1,)):
                self.assertIs(is_even_form(Ring.of_poly(prime, poly), even_form(Ring.of_poly(prime, poly))), True)
            self.assertEqual(even_form(low_ring(prime, size)), None)
            if prime > 2:
                self.assertRaises(TooMany, even_form, low_ring(prime, size + 1))


class TurnTest(unittest.TestCase):
    def rings_with_forms(self, prime):
        rings = with_bent(prime) + [Ring.full(prime, 3), bent_ring(prime, 3)]
        return [(ring, form_of(ring)) for ring in rings if form_of(ring) is not None]

    def check_turn(self, ring, form, table):
        e = units(ring.size)
        for x, y in itertools.product(e, repeat=2):
            self.assertEqual(value(ring, form, multiplied(ring, x, y)), value(ring, form, multiplied(ring, y, led(ring.prime, table, x))))
            both = multiplied(ring, led(ring.prime, table, x), led(ring.prime, table, y))
            self.assertEqual(led(ring.prime, table, multiplied(ring, x, y)), both)
        self.assertEqual(led(ring.prime, table, ring.one), ring.one)
        undone_table(ring.prime, table)
        self.assertEqual(table == e, is_even_form(ring, form))

    def test_turns(self):
        """[16.4]"""
        bent = 0
        for prime in PRIMES:
            for ring, form in self.rings_with_forms(prime):
                table = turn(ring, form)
                self.check_turn(ring, form, table)
                bent += table != units(ring.size)
        self.assertGreater(bent, 20)

    def test_just_one(self):
        """By trial of all tables, the turn is the only one."""
        for prime in (2, 3):
            for ring in (Ring.of_poly(prime, first_irreducible(prime, 2)), Ring.of_poly(prime, (0, 0, 1))):
                form, e = form_of(ring), units(2)
                found = [table for table in itertools.product(rows_of(prime, 2), repeat=2) if all(
                    value(ring, form, multiplied(ring, x, y)) == value(ring, form, multiplied(ring, y, led(prime, table, x)))
                    for x in e for y in e)]
                self.assertEqual(found, [turn(ring, form)])

    def test_by_units(self):
        for prime in PRIMES:
            for ring, form in self.rings_with_forms(prime):
                table = turn(ring, form)
                for unit in [u for u in some_rows(prime, ring.size, 12, 4) if ring.is_unit(u)][:3] + [ring.one]:
                    moved, by = turn_by(ring, form, unit)
                    self.assertEqual(moved, tuple(value(ring, form, multiplied(ring, x, unit)) for x in units(ring.size)))
                    self.assertEqual([is_form(ring, moved), by], [True, turn(ring, moved)])
                    self.check_turn(ring, moved, by)
                    back = ring.inverse(unit)
                    self.assertEqual(by, tuple(multiplied(ring, multiplied(ring, unit, row), back) for row in table))
                self.assertEqual(turn_by(ring, form, ring.one), (form, table))

    def test_refused(self):
        for prime in PRIMES:
            ring, form = Ring.full(prime, 2), (1, 0, 0, 1)
            for member in ((0, 0, 0, 0), (1, 0, 0, 0), (1, 1, 1, 1)):
                with self.assertRaises(Refused) as caught:
                    turn_by(ring, form, member)
                self.assertEqual(caught.exception.reason, ("no unit",))
            for wrong in (None, (1, 0, 0, 0), (0, 0, 0, 0), [1, 0, 0, 1], (1, 0, 0, prime + 1), (True, 0, 0, 1), (1, 0, 0)):
                self.assertRaises(InvalidOperation, turn, ring, wrong)
                for unit in (None, (0, 0, 0, 0), (1, 0, 0, 1)):
                    self.assertRaises(InvalidOperation, turn_by, ring, wrong, unit)
            for unit in (None, (1, 0, 0), [1, 0, 0, 1], (True, 0, 0, 1)):
                self.assertRaises(InvalidRow, turn_by, ring, form, unit)


class IdealTest(unittest.TestCase):
    def test_killers(self):
        """[16.5]"""
        for prime in PRIMES:
            for ring in with_bent(prime) + great_rings(prime)[::3]:
                if form_of(ring) is None:
                    continue
                chance = random.Random(6)
                for count in (0, 1, 1, 2):
                    for side, other in (("left", "right"), ("right", "left")):
                        members = tuple(tuple(chance.randrange(prime) for _ in range(ring.size)) for _ in range(count))
                        ideal = ideal_made(ring, members, side=side)
                        gone = killers(ring, ideal, side=other)
                        self.assertEqual([len(gone), killers(ring, gone, side=side)], [ring.size - len(ideal), ideal])

    def test_without_a_form(self):
        for prime in PRIMES:
            ring = Ring.stairs(prime, 2)
            ideal = ideal_made(ring, ((1, 0, 0),), side="left")
            self.assertNotEqual(len(killers(ring, ideal, side="right")), ring.size - len(ideal))

    def test_pulled_rooms(self):
        """[13.2]: over a ring with a form pulling ends at once, or not at all."""
        for prime in PRIMES:
            for ring in [some for some in with_bent(prime)[::2] if some.size <= 5 and form_of(some) is not None]:
                for room in rooms_of(ring, 5):
                    try:
                        found = pulled_length(room)
                    except TooMany:
                        continue
                    if found[0] == "ends":
                        self.assertIn(found[1], (0, 1))


class NotTrueTest(unittest.TestCase):
    """[16.6]"""

    def test_each_ring_has_a_form(self):
        for prime in PRIMES:
            self.assertEqual(form_of(low_ring(prime, 3)), None)

    def test_forms_and_even_forms(self):
        for prime in (3, 5, 7):
            for ring in (bent_ring(prime, -1), turned([bent_ring(prime, -1)], 1)[0]):
                form = form_of(ring)
                self.assertEqual([form is None, even_form(ring)], [False, None])
                self.assertEqual(followed(prime, turn(ring, form), turn(ring, form)), units(4))
            self.assertIsNotNone(even_form(bent_ring(prime, 1)))
        self.assertIsNotNone(even_form(bent_ring(2, -1)))

    def test_forms_of_subrings(self):
        for prime in PRIMES:
            ring, form = Ring.full(prime, 2), (1, 0, 0, 1)
            space = space_of(prime, 4, ((1, 0, 0, 1), (0, 1, 0, 0)))
            self.assertTrue(is_subring(ring, space) and is_form(ring, form))
            # On the subring the form is 0 at all products with the second base row, unless 1 + 1 is not 0.
            values = [[value(ring, form, multiplied(ring, x, y)) for y in space] for x in space]
            self.assertEqual(values[1], [0, 0])
            self.assertFalse(does_hold(prime, 4, space, (1, 0, 0, 0)))

    def test_the_examples(self):
        self.assertEqual([form_of(ring) is None for ring in (F2, U3, K9, S3, C4, N4)], [False, True, False, False, False, False])


if __name__ == "__main__":
    unittest.main()
