"""Full tables over fields [17.1] to [17.6]."""

import itertools
import random
import unittest

from tablerings.base.lines import kernel_rows
from tablerings.base.polys import first_irreducible
from tablerings.base.spaces import does_hold, space_of
from tablerings.errors import InvalidNumber, InvalidOperation, InvalidRow, Refused, TooMany
from tablerings.full import fields
from tablerings.full.fields import (
    double_centralizer, field_ring, full_kind, full_over, is_leading_map, is_leading_unit_of, leading_unit_of, pair_number,
    pairs_counted, signed_sum,
)
from tablerings.rings.full import full_parts, kinds
from tablerings.rings.ideals import centralizer, centre, ideal_made
from tablerings.rings.radical import radical
from tablerings.rings.rings import Ring, is_subring, opposite, rebased, ring_of_subring, subring_made
from tests import samples
from tests.samples import PRIMES, all_rings, great_rings, junk, low_rings, multiplied, rows_of, some_rows, turned

SIZES = [(degree, side) for degree in range(1, 7) for side in range(1, 4) if degree * side * side <= 9]


def units(size):
    """The base members."""
    return tuple(tuple(1 if i == j else 0 for j in range(size)) for i in range(size))


def full_rings(prime):
    """Full rings: as they are made, opposite, and told by other base members."""
    rings = [full_over(prime, degree, side) for degree, side in ((1, 1), (2, 1), (3, 1), (1, 2), (2, 2), (1, 3))]
    return rings + turned(rings, prime)


def wide_subring(ring, members):
    """The subring that the centre and some members make."""
    return subring_made(ring, tuple(centre(ring)) + tuple(members))


def is_without_nil(ring, space):
    """Whether no two-sided ideal of a subring but 0 has a power 0."""
    return radical(ring_of_subring(ring, space)) == ()


def is_simple(ring, space):
    """Whether a subring has no two-sided ideals but 0 and itself."""
    low = ring_of_subring(ring, space)
    return radical(low) == () and len(full_parts(low)) == 1


def one_unit(ring, chance):
    """A unit, by chance."""
    while True:
        row = tuple(chance.randrange(ring.prime) for _ in range(ring.size))
        if ring.is_unit(row):
            return row


def some_tuples(ring, seed, count):
    """Pairs of tuples of members: led by a unit, led but for one, and by chance among few members."""
    chance = random.Random(seed)
    known = [(0,) * ring.size, ring.one] + list(units(ring.size)) + some_rows(ring.prime, ring.size, 2, seed)
    for at in range(count):
        unit = one_unit(ring, chance)
        one = [chance.choice(known) for _ in range(chance.choice((1, 1, 2, 3, 4)))]
        other = [ring.product(ring.product(unit, x), ring.inverse(unit)) for x in one]
        if at % 3 == 1:
            other[-1] = chance.choice(known)
        if at % 3 == 2:
            other = [chance.choice(known) for _ in one]
        yield tuple(one), tuple(other), at % 3 == 0


def map_by_words(ring, one, other):
    """The map of rings that leaves the centre and leads one[i] to other[i], as a dict on the subring, or None.

    It is grown member by member: sums and products of what is known; what is led to two members bars each map.
    """
    prime, size = ring.prime, ring.size
    known = {(0,) * size: (0,) * size}
    waiting = [(z, z) for z in centre(ring)] + list(zip(one, other))
    while waiting:
        x, y = waiting.pop()
        if x in known:
            if known[x] != y:
                return None
            continue
        old = list(known.items())
        for number in range(prime):
            for a, b in old:
                key = tuple((p + number * q) % prime for p, q in zip(a, x))
                goal = tuple((p + number * q) % prime for p, q in zip(b, y))
                if known.setdefault(key, goal) != goal:
                    return None
        makers = [(z, z) for z in centre(ring)] + list(zip(one, other))
        waiting += [(multiplied(ring, x, a), multiplied(ring, y, b)) for a, b in makers]
    return known


class MakingTest(unittest.TestCase):
    def test_constants(self):
        self.assertEqual([fields.MAX_TRIED, fields.MAX_FACTORS], [5000, 6])

    def test_full_over(self):
        """[17.1]"""
        for prime in PRIMES:
            for degree, side in SIZES:
                ring = full_over(prime, degree, side)
                self.assertEqual(ring, samples.full_over(prime, first_irreducible(prime, degree), side))
                self.assertEqual(ring.one, Ring(prime, ring.table).one)
                self.assertEqual(full_kind(ring), (side, degree))
                self.assertEqual([len(centre(ring)), radical(ring), len(full_parts(ring))], [degree, (), 1])
                low = ring_of_subring(ring, centre(ring))
                self.assertEqual(kinds(low), ((1, degree),))
            for degree in range(1, 7):
                self.assertEqual(field_ring(prime, degree), Ring.of_poly(prime, first_irreducible(prime, degree)))
                self.assertEqual(full_over(prime, degree, 1), field_ring(prime, degree))
            for side in (1, 2, 3):
                self.assertEqual(full_over(prime, 1, side), Ring.full(prime, side))

    def test_too_great(self):
        for prime in PRIMES:
            for degree, side in itertools.product(range(1, 7), range(1, 4)):
                if (degree, side) not in SIZES:
                    for call in (full_over, pair_number):
                        with self.assertRaises(TooMany) as caught:
                            call(prime, degree, side)
                        self.assertEqual(caught.exception.most, 9)
            for degree in (0, 7, True, None, 10 ** 60):
                for call in (lambda: field_ring(prime, degree), lambda: full_over(prime, degree, 4), lambda: pair_number(prime, degree, 4)):
                    with self.assertRaises(InvalidNumber) as caught:
                        call()
                    self.assertIs(caught.exception.given, degree)

    def test_one_field_of_each_size(self):
        """All irreducible polynomials of a degree make rings of one kind, each led to the first one by a root of it."""
        for prime in (2, 3, 5):
            ring = field_ring(prime, 2)
            for low, mid in itertools.product(range(prime), repeat=2):
                poly = (low, mid, 1)
                other = Ring.of_poly(prime, poly)
                if radical(other) == () and kinds(other) == ((1, 2),):
                    roots = [x for x in rows_of(prime, 2) if x[1] and all(number == 0 for number in ring.added(
                        ring.added(ring.times(low, ring.one), ring.times(mid, x)), ring.product(x, x)))]
                    self.assertEqual(len(roots), 2)
                    for root in roots:
                        self.assertEqual(rebased(ring, (ring.one, root)), other)

    def test_full_kind(self):
        for prime in PRIMES:
            for ring in all_rings(prime) + great_rings(prime):
                if radical(ring) == () and len(kinds(ring)) == 1:
                    self.assertEqual(full_kind(ring), kinds(ring)[0])
                else:
                    with self.assertRaises(Refused) as caught:
                        full_kind(ring)
                    self.assertEqual(caught.exception.reason, ("full",))


class CentralizerTest(unittest.TestCase):
    def test_double(self):
        """[17.2]"""
        seen = {"simple": 0, "plain": 0, "nil": 0}
        for prime in PRIMES:
            for ring in full_rings(prime):
                side, degree = full_kind(ring)
                chance = random.Random(ring.size)
                for _ in range(8):
                    members = tuple(tuple(chance.randrange(prime) for _ in range(ring.size)) for _ in range(chance.choice((1, 1, 2))))
                    if chance.random() < 0.4:
                        members += (chance.choice(units(ring.size)),)
                    found = double_centralizer(ring, members)
                    self.assertEqual(found, centralizer(ring, centralizer(ring, members)))
                    space = wide_subring(ring, members)
                    self.assertTrue(all(does_hold(prime, ring.size, found, row) for row in space))
                    if is_without_nil(ring, space):
                        self.assertEqual(found, space)
                        seen["plain"] += 1
                    else:
                        seen["nil"] += 1
                    if is_simple(ring, space):
                        self.assertEqual(len(space) * len(centralizer(ring, space)), ring.size * degree)
                        seen["simple"] += 1
                self.assertEqual([double_centralizer(ring, ()), double_centralizer(ring, units(ring.size))], [centre(ring), units(ring.size)])
        self.assertGreater(min(seen.values()), 10)

    def test_refused(self):
        for prime in PRIMES:
            for ring in (Ring.stairs(prime, 2), Ring.both(Ring.full(prime, 1), Ring.full(prime, 1)), Ring.of_poly(prime, (0, 0, 1))):
                row = ring.one
                calls = [lambda: double_centralizer(ring, (row,)), lambda: is_leading_map(ring, (row,), (row, row)),
                         lambda: leading_unit_of(ring, (row,), (row, row)), lambda: is_leading_unit_of(ring, (row,), (row, row), None),
                         lambda: leading_unit_of(ring, (row,), (row,)), lambda: full_kind(ring)]
                for call in calls:
                    with self.assertRaises(Refused) as caught:
                        call()
                    self.assertEqual(caught.exception.reason, ("full",))


class LeadingTest(unittest.TestCase):
    def test_maps(self):
        """[17.3]: at most one map, and none exactly if the members bar it."""
        seen = {True: 0, False: 0}
        for prime in PRIMES:
            for ring in full_rings(prime):
                if ring.many > 700:
                    continue
                for one, other, led in some_tuples(ring, prime + ring.size, 15):
                    found = map_by_words(ring, one, other)
                    told = is_leading_map(ring, one, other)
                    self.assertIs(told, found is not None)
                    seen[told] += 1
                    if found is not None and len(found) <= 30:
                        for (x, y), (a, b) in itertools.product(list(found.items())[::3], repeat=2):
                            self.assertEqual(found[multiplied(ring, x, a)], multiplied(ring, y, b))
                    if led:
                        self.assertTrue(told)
        self.assertGreater(min(seen.values()), 60)

    def solutions(self, ring, one, other):
        """All members u with u one[i] = other[i] u."""
        return [u for u in rows_of(ring.prime, ring.size) if all(
            multiplied(ring, u, x) == multiplied(ring, y, u) for x, y in zip(one, other))]

    def test_units(self):
        seen = {"unit": 0, "no map": 0, "map alone": 0}
        for prime in PRIMES:
            for ring in full_rings(prime):
                if ring.many > 300:
                    continue
                for one, other, led in some_tuples(ring, 3 * prime + ring.size, 12):
                    found, told = leading_unit_of(ring, one, other), is_leading_map(ring, one, other)
                    right = [u for u in self.solutions(ring, one, other) if ring.is_unit(u)]
                    self.assertEqual(found is not None, bool(right))
                    self.assertIs(is_leading_unit_of(ring, one, other, found), found is not None)
                    for row in right[:5] + some_rows(prime, ring.size, 5, 1) + [(0,) * ring.size]:
                        self.assertIs(is_leading_unit_of(ring, one, other, row), row in right)
                    if found is not None:
                        self.assertIn(found, right)
                        self.assertTrue(told)
                    self.assertTrue(found is not None or not led)
                    # If the subring has no two-sided ideals but 0 and itself, a map is a unit's.
                    if is_simple(ring, wide_subring(ring, one)):
                        self.assertEqual(found is not None, told)
                    seen["unit" if right else "map alone" if told else "no map"] += 1
            self.check_maps_alone(Ring.full(prime, 2))
        self.assertGreater(min(seen.values()), 1)

    def check_maps_alone(self, ring):
        """An idempotent is led to 0, or to the one, by a map, but by no unit."""
        for one in ((1, 0, 0, 0), (0, 1, 0, 1), (1, 0, 1, 0)):
            for other in ((0, 0, 0, 0), ring.one):
                self.assertEqual([is_leading_map(ring, (one,), (other,)), leading_unit_of(ring, (one,), (other,))], [True, None])
                self.assertEqual([u for u in self.solutions(ring, (one,), (other,)) if ring.is_unit(u)], [])

    def test_greater_rings(self):
        for prime in PRIMES:
            for ring in [Ring.full(prime, 3), full_over(prime, 2, 2)] + turned([Ring.full(prime, 3), full_over(prime, 2, 2)], 12):
                for one, other, led in some_tuples(ring, prime, 9):
                    try:
                        found = leading_unit_of(ring, one, other)
                    except TooMany as error:
                        self.assertEqual(error.most, 5000)
                        self.assertGreater(self.solution_number(ring, one, other), 5000)
                        continue
                    self.assertLessEqual(self.solution_number(ring, one, other), 5000)
                    self.assertIs(is_leading_unit_of(ring, one, other, found), found is not None)
                    self.assertTrue(found is not None or not led)

    def solution_number(self, ring, one, other):
        """How many members u have u one[i] = other[i] u."""
        rows = [tuple((a - b) % ring.prime for x, y in zip(one, other)
                      for a, b in zip(multiplied(ring, unit, x), multiplied(ring, y, unit))) for unit in units(ring.size)]
        return ring.prime ** len(kernel_rows(ring.prime, rows))

    def test_too_many(self):
        """7 ** 4 members are tried, 3 ** 9 are too many, even if the first one of them is a unit."""
        for prime in PRIMES:
            ring, side3 = Ring.full(prime, 2), Ring.full(prime, 3)
            nothing = ((0,) * 4,)
            self.assertIs(is_leading_unit_of(ring, nothing, nothing, leading_unit_of(ring, nothing, nothing)), True)
            self.assertEqual(leading_unit_of(ring, nothing, (ring.one,)), None)
            wide = (side3.one,)
            if prime == 2:
                self.assertIs(is_leading_unit_of(side3, wide, wide, leading_unit_of(side3, wide, wide)), True)
            else:
                with self.assertRaises(TooMany) as caught:
                    leading_unit_of(side3, wide, wide)
                self.assertEqual(caught.exception.most, 5000)
            self.assertIs(is_leading_unit_of(side3, wide, wide, side3.one), True)
            self.assertIs(is_leading_map(side3, wide, wide), True)
        five, six = field_ring(5, 5), field_ring(5, 6)
        self.assertIsNotNone(leading_unit_of(five, (five.one,), (five.one,)))
        self.assertRaises(TooMany, leading_unit_of, six, (six.one,), (six.one,))

    def test_judge(self):
        for prime in PRIMES:
            ring = Ring.full(prime, 2)
            one = ((0, 1, 0, 0),)
            for value in junk() + [None, [1, 0, 0, 1], (1, 0, 0), (True, 0, 0, 1), (1, 0, 0, prime + 1), (0, 0, 0, 0), (0, 1, 0, 0), ring]:
                self.assertIs(is_leading_unit_of(ring, one, one, value), False)
            self.assertIs(is_leading_unit_of(ring, one, one, ring.one), True)

    def test_wrong_tuples(self):
        for prime in PRIMES:
            ring = Ring.full(prime, 2)
            row = ring.one
            calls = (is_leading_map, leading_unit_of, lambda *some: is_leading_unit_of(*some, row))
            for call in calls:
                for wrong in ((), (row,) * 5, [row], row, None, (row, None), (row, row[1:])):
                    self.assertRaises(InvalidRow, call, ring, wrong, (row,))
                    self.assertRaises(InvalidRow, call, ring, (row,), wrong)
                for count in (1, 2, 3, 4):
                    call(ring, (row,) * count, (row,) * count)
                    for other in {1, 2, 3, 4} - {count}:
                        self.assertRaises(InvalidOperation, call, ring, (row,) * count, (row,) * other)


class PairTest(unittest.TestCase):
    def test_formula_and_centralizers(self):
        """[17.4]: each way by itself, and both alike."""
        seen = 0
        for prime in PRIMES:
            for degree, side in SIZES:
                ring = full_over(prime, degree, side)
                told = pair_number(prime, degree, side)
                if ring.many > 5000:
                    with self.assertRaises(TooMany) as caught:
                        pairs_counted(ring)
                    self.assertEqual(caught.exception.most, 5000)
                    continue
                self.assertEqual(pairs_counted(ring), told)
                seen += 1
                if ring.many <= 300:
                    self.assertEqual(sum(prime ** len(centralizer(ring, (row,))) for row in rows_of(prime, ring.size)), told)
        self.assertGreater(seen, 20)

    def test_every_ring(self):
        for prime in PRIMES:
            for ring in low_rings(prime, 300):
                members = rows_of(prime, ring.size)
                self.assertEqual(pairs_counted(ring), sum(prime ** len(centralizer(ring, (row,))) for row in members))
                if ring.many <= 32:
                    pairs = [(a, b) for a in members for b in members if multiplied(ring, a, b) == multiplied(ring, b, a)]
                    self.assertEqual(pairs_counted(ring), len(pairs))
                self.assertEqual(pairs_counted(opposite(ring)), pairs_counted(ring))
            for ring in all_rings(prime)[::4]:
                if ring.many > 5000:
                    self.assertRaises(TooMany, pairs_counted, ring)

    def test_at_the_edge(self):
        self.assertEqual(pairs_counted(Ring.of_poly(5, (0,) * 5 + (1,))), 5 ** 10)
        self.assertEqual(pairs_counted(Ring.of_poly(7, (0,) * 4 + (1,))), 7 ** 8)
        self.assertEqual(pairs_counted(Ring.full(2, 3)), pair_number(2, 1, 3))
        self.assertRaises(TooMany, pairs_counted, Ring.of_poly(5, (0,) * 6 + (1,)))
        self.assertRaises(TooMany, pairs_counted, Ring.of_poly(7, (0,) * 5 + (1,)))


class SignedSumTest(unittest.TestCase):
    def by_words(self, ring, members):
        total = (0,) * ring.size
        for sequence in itertools.permutations(range(len(members))):
            made = ring.one
            for at in sequence:
                made = multiplied(ring, made, members[at])
            sign = (-1) ** sum(a > b for a, b in itertools.combinations(sequence, 2))
            total = tuple((a + sign * b) % ring.prime for a, b in zip(total, made))
        return total

    def test_sums(self):
        """[17.5]"""
        for prime in PRIMES:
            for ring in all_rings(prime)[::3] + full_rings(prime)[::4]:
                for count in range(1, 7 if ring.size <= 4 else 5):
                    members = tuple(some_rows(prime, ring.size, count, count))
                    found = signed_sum(ring, members)
                    self.assertEqual(found, self.by_words(ring, members))
                    if count > 1:
                        other = (members[1], members[0]) + members[2:]
                        self.assertEqual(signed_sum(ring, other), ring.times(-1, found))
                        self.assertEqual(signed_sum(ring, (members[1],) + members[1:]), (0,) * ring.size)
            self.assertEqual(signed_sum(Ring.full(prime, 1), ((prime - 1,),)), (prime - 1,))

    def test_full_rings(self):
        """All 2 m members have the sum 0, and some 2 m - 1 have another one."""
        for prime in PRIMES:
            for ring in full_rings(prime):
                side, degree = full_kind(ring)
                for seed in range(4):
                    members = tuple(some_rows(prime, ring.size, 2 * side, seed))
                    self.assertEqual(signed_sum(ring, members), (0,) * ring.size)
            for degree, side in ((1, 1), (3, 1), (1, 2), (2, 2), (1, 3)):
                ring = full_over(prime, degree, side)
                for members in itertools.islice(itertools.combinations(units(ring.size)[::degree], min(2 * side, side * side)), 40):
                    self.assertEqual(any(signed_sum(ring, members)) and len(members) == 2 * side, False)
                found = [some for some in itertools.combinations(units(ring.size)[::degree], 2 * side - 1) if any(signed_sum(ring, some))]
                self.assertTrue(found)

    def test_wrong_members(self):
        for prime in PRIMES:
            ring = Ring.full(prime, 2)
            row = ring.one
            for wrong in ((), (row,) * 7, [row], row, None, (row, None), (row, row[1:]), ((True,) + row[1:],), "row"):
                self.assertRaises(InvalidRow, signed_sum, ring, wrong)
            self.assertEqual(signed_sum(ring, (row,) * 6), (0,) * 4)


class NotTrueTest(unittest.TestCase):
    """[17.6]"""

    def test_equal_least_polynomials(self):
        """Members with equal least polynomials, and even with a map of rings, that no unit leads to one another."""
        for prime in PRIMES:
            ring = Ring.full(prime, 3)
            one, other = ((1, 0, 0, 0, 0, 0, 0, 0, 0),), ((1, 0, 0, 0, 1, 0, 0, 0, 0),)
            for some in (one, other):
                self.assertEqual(ring.product(some[0], some[0]), some[0])
            self.assertEqual([is_leading_map(ring, one, other), leading_unit_of(ring, one, other)], [True, None])

    def test_subrings_that_hold_the_centre(self):
        for prime in PRIMES:
            ring = Ring.full(prime, 2)
            upper = space_of(prime, 4, ((1, 0, 0, 0), (0, 1, 0, 0), (0, 0, 0, 1)))
            self.assertTrue(is_subring(ring, upper) and all(does_hold(prime, 4, upper, row) for row in centre(ring)))
            self.assertNotEqual(double_centralizer(ring, upper), upper)

    def test_maps_and_the_centre(self):
        """The power by the prime is a map of a field onto itself, and leaves no member but the residues."""
        for prime in PRIMES:
            ring = field_ring(prime, 2)
            for x, y in itertools.product(rows_of(prime, 2)[:6], repeat=2):
                both = ring.added(ring.power(x, prime), ring.power(y, prime))
                self.assertEqual(ring.power(ring.added(x, y), prime), both)
            self.assertEqual(len({ring.power(x, prime) for x in rows_of(prime, 2)}), ring.many)
            self.assertNotEqual(ring.power((0, 1), prime), (0, 1))
            self.assertIs(is_leading_map(ring, ((0, 1),), (ring.power((0, 1), prime),)), False)

    def test_simple_full_rings(self):
        """A full ring has no two-sided ideals but 0 and all."""
        for prime in (2, 3):
            for ring in full_rings(prime):
                if ring.many <= 300:
                    for row in rows_of(prime, ring.size)[1:]:
                        self.assertEqual(len(ideal_made(ring, (row,))), ring.size)


if __name__ == "__main__":
    unittest.main()
