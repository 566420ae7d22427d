"""Split subrings [8.1] to [8.5]."""

import itertools
import unittest

from tablerings.base.polys import first_irreducible
from tablerings.base.spaces import does_hold, space_meet, space_of, space_sum
from tablerings.errors import InvalidSpace
from tablerings.rings.ideals import quotient_ring, quotient_row
from tablerings.rings.idempotents import parting
from tablerings.rings.radical import radical
from tablerings.rings.rings import Ring, is_subring, opposite, ring_of_subring, subring_made
from tablerings.rings.split import (
    is_leading_nil, is_split_subring, leading_nil, split_number, split_subring,
)
from tests.samples import (
    C4, F2, K9, N4, PRIMES, S3, U3, V4, all_rings, full_over, great_rings, junk, low_ring, low_rings, rows_of, some_rows,
    sums_of, turned, units_by_trial,
)


def less(ring, one, other):
    """The first member less the second one."""
    return ring.added(one, ring.times(-1, other))


def led_by(ring, unit, space):
    """The space of all unit s unit', s in the space."""
    back = ring.inverse(unit)
    return space_of(ring.prime, ring.size, tuple(ring.product(ring.product(unit, s), back) for s in space))


def is_split(ring, space):
    """Whether a space is a split subring, by the document's words."""
    prime, size, nil = ring.prime, ring.size, radical(ring)
    if not is_subring(ring, space) or space_meet(prime, size, space, nil):
        return False
    return len(space_sum(prime, size, space, nil)) == size


def all_spaces(prime, width, count):
    """All spaces of a dimension, told by their bases."""
    found = []
    for leads in itertools.combinations(range(width), count):
        free = [[at for at in range(lead + 1, width) if at not in leads] for lead in leads]
        for numbers in itertools.product(*[itertools.product(range(prime), repeat=len(places)) for places in free]):
            rows = []
            for lead, places, some in zip(leads, free, numbers):
                row = [0] * width
                row[lead] = 1
                for at, number in zip(places, some):
                    row[at] = number
                rows.append(tuple(row))
            found.append(tuple(rows))
    return found


def all_split(ring):
    """All split subrings of a ring with few members in J, led to one another by 1 + j."""
    first = split_subring(ring)
    return {led_by(ring, ring.added(ring.one, j), first) for j in sums_of(ring.prime, ring.size, radical(ring))}


def some_nils(ring, count, seed):
    """Some members of J, by chance, and 0."""
    nil = radical(ring)
    numbers = some_rows(ring.prime, len(nil), count, seed)
    rows = [tuple(sum(n * row[at] for n, row in zip(some, nil)) % ring.prime for at in range(ring.size)) for some in numbers]
    return rows + [(0,) * ring.size]


def all_of_great(prime):
    """Rings of the size 8 and 9, as they are made and told by other base members."""
    return great_rings(prime) + turned(great_rings(prime), prime + 30)


class SplitTest(unittest.TestCase):
    def test_any_split_subring(self):
        """[8.1]"""
        for prime in PRIMES:
            for ring in all_rings(prime) + all_of_great(prime):
                found = split_subring(ring)
                self.assertTrue(is_split(ring, found))
                self.assertIs(is_split_subring(ring, found), True)
                self.assertEqual(len(found), ring.size - len(radical(ring)))
                self.assertIs(is_split_subring(opposite(ring), found), True)
                self.check_classes(ring, found)

    def check_classes(self, ring, space):
        """R / J is the same ring as S, by the classes of its members."""
        nil = radical(ring)
        low = quotient_ring(ring, nil)
        rows = [quotient_row(ring, nil, s) for s in space]
        self.assertEqual(len(space_of(ring.prime, low.size, tuple(rows))), low.size)
        by_itself = ring_of_subring(ring, space)
        for (i, one), (j, other) in itertools.product(enumerate(rows), repeat=2):
            product = by_itself.table[i][j]
            goal = tuple(sum(n * row[at] for n, row in zip(product, rows)) % ring.prime for at in range(low.size))
            self.assertEqual(low.product(one, other), goal)

    def test_all_spaces_of_small_rings(self):
        rings = [Ring.stairs(2, 2), Ring.stairs(3, 2), C4, low_ring(2, 4), Ring.of_poly(2, (1, 0, 1)), Ring.of_poly(2, (1, 0, 1, 0, 1)),
                 Ring.of_poly(3, (0, 0, 1)), Ring.of_poly(5, (0, 0, 1)), Ring.of_poly(7, (0, 0, 1)), Ring.stairs(5, 2), F2, K9,
                 Ring.both(Ring.stairs(2, 2), Ring.of_poly(2, (0, 0, 1)))]
        for ring in rings + turned(rings, 91):
            found = set()
            for count in range(ring.size + 1):
                for space in all_spaces(ring.prime, ring.size, count):
                    right = is_split(ring, space)
                    self.assertIs(is_split_subring(ring, space), right)
                    found |= {space} if right else set()
            self.assertEqual(found, all_split(ring))
            self.assertEqual(split_number(ring), len(found))

    def test_all_spaces_of_stairs(self):
        found = {space for space in all_spaces(2, 6, 3) if is_split_subring(U3, space)}
        self.assertEqual([len(found), found], [8, all_split(U3)])

    def test_what_is_judged(self):
        for ring in (F2, K9, U3, C4, Ring.stairs(7, 3)):
            right = split_subring(ring)
            for value in junk() + [list(right), right + ((0,) * ring.size,), right[:-1], right[::-1] if len(right) > 1 else 1,
                                   tuple(list(row) for row in right), tuple(tuple(map(bool, row)) for row in right),
                                   right * 2, ((10 ** 5000,) * ring.size,), radical(ring), right[0]]:
                self.assertIs(is_split_subring(ring, value), False)

    def test_where_fields_have_to_be_found(self):
        """The square of an irreducible polynomial, and tables over what it makes."""
        for prime in PRIMES:
            for degree in (1, 2, 3, 4):
                poly = first_irreducible(prime, degree)
                square = tuple(sum(poly[i] * poly[k - i] for i in range(degree + 1) if 0 <= k - i <= degree) % prime
                               for k in range(2 * degree + 1))
                ring = Ring.of_poly(prime, square)
                for one in [ring] + turned([ring], 7):
                    field = ring_of_subring(one, split_subring(one))
                    self.assertEqual([field.size, radical(field), len(parting(field))], [degree, (), 1])
                    self.assertEqual(split_number(one), 1)
            tables = full_over(prime, (0, 0, 1), 2)
            self.assertEqual(split_number(tables), prime ** 3)


class LeadingTest(unittest.TestCase):
    def test_led_subrings(self):
        """[8.2]"""
        for prime in PRIMES:
            for ring in all_rings(prime) + all_of_great(prime)[::2]:
                first = split_subring(ring)
                for j in some_nils(ring, 2, 5):
                    unit = ring.added(ring.one, j)
                    self.assertTrue(ring.is_unit(unit))
                    other = led_by(ring, unit, first)
                    self.assertIs(is_split_subring(ring, other), True)
                    self.assertIs(is_leading_nil(ring, first, other, j), True)
                    for one, two in ((first, other), (other, first), (other, other)):
                        found = leading_nil(ring, one, two)
                        self.assertIs(is_leading_nil(ring, one, two, found), True)
                        self.check(ring, one, two, found)

    def check(self, ring, one, other, found):
        """The row is right, by the document's words."""
        self.assertTrue(does_hold(ring.prime, ring.size, radical(ring), found))
        unit = ring.added(ring.one, found)
        self.assertEqual(space_of(ring.prime, ring.size, tuple(ring.product(unit, s) for s in one)),
                         space_of(ring.prime, ring.size, tuple(ring.product(t, unit) for t in other)))

    def test_all_rows(self):
        for prime in PRIMES:
            for ring in low_rings(prime, 130):
                every = sorted(all_split(ring))
                for one, other in itertools.product(every[:3], every[-3:]):
                    nil = set(sums_of(prime, ring.size, radical(ring)))
                    for value in rows_of(prime, ring.size):
                        right = value in nil and led_by(ring, ring.added(ring.one, value), one) == other
                        self.assertIs(is_leading_nil(ring, one, other, value), right)

    def test_what_is_judged(self):
        for ring in (U3, C4, Ring.stairs(7, 2), K9):
            one = split_subring(ring)
            for value in junk() + [[0] * ring.size, (False,) * ring.size, (0,) * (ring.size + 1), ring.one, (10 ** 5000,) * ring.size]:
                self.assertIs(is_leading_nil(ring, one, one, value), False)
            self.assertIs(is_leading_nil(ring, one, one, (0,) * ring.size), True)

    def test_what_is_no_split_subring(self):
        for prime in PRIMES:
            ring = Ring.stairs(prime, 2)
            right = ((1, 0, 0), (0, 0, 1))
            for wrong in (((1, 0, 1),), ((1, 0, 0), (0, 1, 0), (0, 0, 1)), ((1, 0, 0), (0, 1, 0)), (), ((0, 1, 0),), None, [right], 1,
                          ((1, 0, 1), (0, 1, 0)), (right[1], right[0])):
                for one, other in ((wrong, right), (right, wrong), (wrong, wrong)):
                    self.assertRaises(InvalidSpace, leading_nil, ring, one, other)
                    self.assertRaises(InvalidSpace, is_leading_nil, ring, one, other, (0, 0, 0))


class NumberTest(unittest.TestCase):
    def test_numbers(self):
        """[8.3]"""
        for prime in PRIMES:
            for ring in low_rings(prime, 2500):
                if prime ** len(radical(ring)) <= 350:
                    every = all_split(ring)
                    self.assertEqual(split_number(ring), len(every))
                    self.check_staying(ring, sorted(every)[-1])

    def check_staying(self, ring, space):
        """The members j of J that commute with a split subring, whichever it is, tell the number; others move it."""
        nil, same = sums_of(ring.prime, ring.size, radical(ring)), 0
        for j in nil:
            commutes = all(ring.product(j, s) == ring.product(s, j) for s in space)
            same += commutes
            self.assertEqual(led_by(ring, ring.added(ring.one, j), space) == space, commutes)
        self.assertEqual(split_number(ring) * same, len(nil))

    def test_great_rings(self):
        for prime in PRIMES:
            self.assertEqual(split_number(Ring.stairs(prime, 3)), prime ** 3)
            for ring in great_rings(prime):
                number = split_number(ring)
                while number % prime == 0:
                    number //= prime
                self.assertEqual(number, 1)
                self.assertEqual([split_number(one) for one in turned([ring], 3)], [split_number(ring)])

    def test_rings_without_nil_and_with_the_greatest(self):
        for prime in PRIMES:
            for ring in (Ring.full(prime, 3), Ring.full(prime, 1), Ring.of_poly(prime, first_irreducible(prime, 6))):
                whole = tuple(tuple(1 if i == j else 0 for j in range(ring.size)) for i in range(ring.size))
                self.assertEqual([split_subring(ring), split_number(ring)], [whole, 1])
                self.assertEqual(leading_nil(ring, whole, whole), (0,) * ring.size)
            ring = low_ring(prime, 9)
            self.assertEqual([split_subring(ring), split_number(ring)], [(ring.one,), 1])


class WithinTest(unittest.TestCase):
    def test_subrings_without_nil_lie_in_split_ones(self):
        """[8.4]"""
        for prime in PRIMES:
            seen = 0
            for ring in low_rings(prime, 2500):
                if prime ** len(radical(ring)) > 350:
                    continue
                every = all_split(ring)
                for member in some_rows(prime, ring.size, 12, 2):
                    space = subring_made(ring, (member,))
                    if not radical(ring_of_subring(ring, space)):
                        seen += len(space) > 1
                        self.assertTrue(any(all(does_hold(prime, ring.size, one, row) for row in space) for one in every))
            self.assertGreater(seen, 5)


class NotTrueTest(unittest.TestCase):
    """[8.5]"""

    def test_one_split_subring_only(self):
        for prime in PRIMES:
            self.assertEqual([split_number(Ring.stairs(prime, 2)), len(all_split(Ring.stairs(prime, 2)))], [prime, prime])

    def test_as_many_members_make_a_split_subring(self):
        for prime in PRIMES:
            ring, space = Ring.stairs(prime, 2), ((1, 0, 1), (0, 1, 0))
            self.assertTrue(is_subring(ring, space))
            self.assertEqual(len(space), len(split_subring(ring)))
            self.assertIs(is_split_subring(ring, space), False)

    def test_members_with_one_class_are_equal(self):
        for prime in PRIMES:
            ring = Ring.stairs(prime, 2)
            one, other = ((1, 0, 0), (0, 0, 1)), space_of(prime, 3, ((1, 1, 0), (0, prime - 1, 1)))
            self.assertEqual([is_split_subring(ring, space) for space in (one, other)], [True, True])
            self.assertEqual(quotient_row(ring, radical(ring), (1, 0, 0)), quotient_row(ring, radical(ring), (1, 1, 0)))
            self.assertFalse(does_hold(prime, 3, one, (1, 1, 0)))

    def test_the_units_are_all_units(self):
        for prime in PRIMES:
            ring = Ring.stairs(prime, 2)
            unit = (1, 1, 1)
            self.assertTrue(ring.is_unit(unit))
            self.assertFalse(does_hold(prime, 3, split_subring(ring), unit) and all(
                does_hold(prime, 3, split_subring(ring), x) for x in units_by_trial(ring)))

    def test_the_rings_of_the_examples(self):
        self.assertEqual([split_number(ring) for ring in (F2, K9, S3, U3, C4, N4, V4)], [1, 1, 1, 8, 1, 1, 1])


if __name__ == "__main__":
    unittest.main()
