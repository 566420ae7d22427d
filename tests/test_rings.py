"""Rings [3.1] to [3.6]."""

import itertools
import random
import unittest

from tablerings.base.polys import is_irreducible
from tablerings.base.spaces import does_hold, followed, is_space, led
from tablerings.errors import InvalidRing, Refused
from tablerings.rings import rings
from tablerings.rings.rings import Ring, is_subring, opposite, rebased, ring_fault, ring_of_subring, subring_made
from tests.samples import (
    C4, F2, K9, N4, PRIMES, S3, U3, V4, all_rings, chance_table, great_rings, junk, low_rings, multiplied, plain_rings,
    rows_of, some_rows, sums_of, units_by_trial,
)


def unit(size, place):
    """The row with 1 at one place."""
    return tuple(1 if at == place else 0 for at in range(size))


def units(size):
    """The table that leads each row to itself."""
    return tuple(unit(size, at) for at in range(size))


def some_members(ring, count, seed):
    """Some members of a ring, by chance."""
    return some_rows(ring.prime, ring.size, count, seed)


def square_product(prime, one, other):
    """The product of two square tables that are told as rows, one behind the other."""
    side = round(len(one) ** 0.5)
    return tuple(sum(one[i * side + j] * other[j * side + k] for j in range(side)) % prime
                 for i in range(side) for k in range(side))


class RingTest(unittest.TestCase):
    def test_constants(self):
        self.assertEqual([rings.MAX_SIZE, rings.MAX_SIDE], [9, 3])

    def test_properties(self):
        for prime in PRIMES:
            for ring in all_rings(prime) + great_rings(prime):
                self.assertEqual([ring.prime, ring.size, ring.many], [prime, len(ring.table), prime ** len(ring.table)])
                self.assertIn(ring.one, ring)
                for row in units(ring.size):
                    self.assertEqual([ring.product(ring.one, row), ring.product(row, ring.one)], [row, row])
                again = Ring(prime, ring.table)
                self.assertTrue(again == ring and not again != ring)
                self.assertEqual(str(ring), "ring of %d over %d" % (ring.size, prime))

    def test_products_are_those_of_the_table(self):
        for prime in PRIMES:
            for ring in plain_rings(prime) + great_rings(prime)[:3]:
                for one, other in zip(some_members(ring, 6, 1), some_members(ring, 6, 2)):
                    self.assertEqual(ring.product(one, other), multiplied(ring, one, other))
                    self.assertEqual(ring.added(one, other), tuple((a + b) % prime for a, b in zip(one, other)))
                rows = units(ring.size)
                for i, j in itertools.product(range(ring.size), repeat=2):
                    self.assertEqual(ring.product(rows[i], rows[j]), ring.table[i][j])

    def test_products_group_and_go_along_with_sums(self):
        for prime in PRIMES:
            for ring in all_rings(prime) + great_rings(prime):
                for a, b, c in zip(*(some_members(ring, 5, seed) for seed in (1, 2, 3))):
                    self.assertEqual(ring.product(ring.product(a, b), c), ring.product(a, ring.product(b, c)))
                    self.assertEqual(ring.product(a, ring.added(b, c)), ring.added(ring.product(a, b), ring.product(a, c)))
                    self.assertEqual(ring.product(ring.added(a, b), c), ring.added(ring.product(a, c), ring.product(b, c)))

    def test_times(self):
        for prime in PRIMES:
            ring = Ring.stairs(prime, 2)
            for member in rows_of(prime, 3)[:30]:
                for number in (0, 1, 2, prime, prime + 1, -1, -prime, 10 ** 60 - 1, 1 - 10 ** 60):
                    expected = (0, 0, 0)
                    for _ in range(number % prime):
                        expected = ring.added(expected, member)
                    self.assertEqual(ring.times(number, member), expected)

    def test_power(self):
        for prime in PRIMES:
            for ring in plain_rings(prime):
                for member in some_members(ring, 3, 4):
                    expected = ring.one
                    for number in range(9):
                        self.assertEqual(ring.power(member, number), expected)
                        expected = ring.product(expected, member)
            field = Ring.of_poly(prime, (0, 1))
            for number in (10 ** 60 - 1, 10 ** 59 + 7):
                self.assertEqual(field.power((prime - 1,), number), (pow(prime - 1, number, prime),))

    def test_units_and_inverses(self):
        for prime in PRIMES:
            for ring in low_rings(prime, 130):
                right = set(units_by_trial(ring))
                for member in rows_of(prime, ring.size):
                    self.assertIs(ring.is_unit(member), member in right)
                    if member in right:
                        other = ring.inverse(member)
                        self.assertEqual([multiplied(ring, member, other), multiplied(ring, other, member)], [ring.one] * 2)
                    else:
                        with self.assertRaises(Refused) as caught:
                            ring.inverse(member)
                        self.assertEqual(caught.exception.reason, ("no unit",))

    def test_units_of_great_rings(self):
        for prime in PRIMES:
            for ring in great_rings(prime):
                for member in some_members(ring, 6, 5) + [ring.one, (0,) * ring.size]:
                    if ring.is_unit(member):
                        other = ring.inverse(member)
                        self.assertEqual([ring.product(member, other), ring.product(other, member)], [ring.one] * 2)
                    else:
                        self.assertRaises(Refused, ring.inverse, member)

    def test_what_is_judged(self):
        for ring in (F2, K9, U3, Ring.full(7, 1)):
            right = (1,) * ring.size
            for value in junk() + [list(right), right + (0,), right[1:], (True,) + right[1:], (10 ** 5000,) * ring.size]:
                if not isinstance(value, tuple) or value != right:
                    self.assertIs(value in ring, False)
                    self.assertIs(ring.is_unit(value), False)
            self.assertIs((True,) * ring.size in ring, False)
            self.assertIs(right in ring, True)

    def test_equality(self):
        for value in junk() + [10 ** 5000, (2, F2.table), F2.table, Ring]:
            if value is not F2:
                self.assertIs(F2 == value, False)
                self.assertIs(F2 != value, True)
        self.assertTrue(F2 == Ring.full(2, 2) and Ring.full(3, 1) != Ring.full(2, 1) and C4 != V4)

    def test_what_rings_are_not(self):
        self.assertRaises(TypeError, iter, F2)
        self.assertRaises(TypeError, len, F2)
        self.assertRaises(TypeError, lambda: F2 + F2)
        self.assertRaises(TypeError, lambda: F2 * 2)
        self.assertRaises(TypeError, lambda: F2 < U3)
        self.assertRaises(TypeError, lambda: F2[0])

    def test_sizes_1_and_9(self):
        for prime in PRIMES:
            low = Ring(prime, (((prime - 1,),),))
            self.assertEqual([low.size, low.one, low.many], [1, (prime - 1,), prime])
            high = Ring.full(prime, 3)
            self.assertEqual([high.size, high.many, high.one], [9, prime ** 9, (1, 0, 0, 0, 1, 0, 0, 0, 1)])
            for number in range(prime):
                self.assertIs(low.is_unit((number,)), number != 0)


class MakersTest(unittest.TestCase):
    def test_full(self):
        for prime in PRIMES:
            for side in (1, 2, 3):
                ring = Ring.full(prime, side)
                self.assertEqual(ring.size, side * side)
                for one, other in zip(some_members(ring, 8, 1), some_members(ring, 8, 2)):
                    self.assertEqual(ring.product(one, other), square_product(prime, one, other))

    def test_stairs(self):
        for prime in PRIMES:
            for side in (1, 2, 3):
                ring = Ring.stairs(prime, side)
                places = [(i, j) for i in range(side) for j in range(i, side)]
                self.assertEqual(ring.size, len(places))

                def widened(row):
                    return tuple(row[places.index((i, j))] if i <= j else 0 for i in range(side) for j in range(side))

                for one, other in zip(some_members(ring, 8, 1), some_members(ring, 8, 2)):
                    expected = square_product(prime, widened(one), widened(other))
                    self.assertEqual(widened(ring.product(one, other)), expected)

    def test_of_moves(self):
        groups = {((0,),): 1, ((1, 0),): 2, ((1, 0, 2), (1, 2, 0)): 6, ((1, 2, 3, 0), (0, 3, 2, 1)): 8,
                  (tuple(range(1, 9)) + (0,),): 9, ((1, 0, 3, 2), (2, 3, 0, 1), (0, 1, 2, 3)): 4,
                  ((1, 2, 0, 3, 4, 5), (0, 1, 2, 4, 5, 3)): 9, ((0, 1, 2, 3, 4, 5, 6, 7, 8),): 1}
        for prime in PRIMES:
            for moves, many in groups.items():
                ring = Ring.of_moves(prime, moves)
                group = self.made(moves)
                self.assertEqual(ring.size, many)
                for i, one in enumerate(group):
                    for j, other in enumerate(group):
                        product = tuple(one[other[place]] for place in range(len(one)))
                        self.assertEqual(ring.table[i][j], unit(many, group.index(product)))

    def made(self, moves):
        """All products of renamings, ascending."""
        group = set(moves)
        while True:
            grown = group | {tuple(g[place] for place in h) for g in group for h in group}
            if grown == group:
                return sorted(group)
            group = grown

    def test_of_poly(self):
        for prime in PRIMES:
            for row in some_rows(prime, 9, 9, 3) + [(0,) * 9]:
                for degree in (1, 2, 5, 9):
                    poly = row[:degree] + (1,)
                    ring = Ring.of_poly(prime, poly)
                    self.assertEqual(ring.size, degree)
                    for one, other in zip(some_members(ring, 3, 1), some_members(ring, 3, 2)):
                        self.assertEqual(ring.product(one, other), self.poly_rest(prime, one, other, poly))

    def poly_rest(self, prime, one, other, poly):
        """The rest of a product of polynomials by a monic one, as a row."""
        degree = len(poly) - 1
        numbers = [0] * (2 * degree)
        for i, a in enumerate(one):
            for j, b in enumerate(other):
                numbers[i + j] += a * b
        for top in reversed(range(degree, 2 * degree)):
            taken = numbers[top]
            for at, number in enumerate(poly):
                numbers[top - degree + at] -= taken * number
        return tuple(number % prime for number in numbers[:degree])

    def test_both(self):
        for prime in PRIMES:
            for one, other in ((Ring.full(prime, 2), Ring.stairs(prime, 2)), (Ring.of_poly(prime, (0, 1)), Ring.full(prime, 2)),
                               (Ring.stairs(prime, 3), Ring.of_poly(prime, (1, 0, 1))), (Ring.full(prime, 1),) * 2):
                ring = Ring.both(one, other)
                self.assertEqual([ring.size, ring.one], [one.size + other.size, one.one + other.one])
                for a, b in zip(some_members(ring, 5, 1), some_members(ring, 5, 2)):
                    expected = one.product(a[:one.size], b[:one.size]) + other.product(a[one.size:], b[one.size:])
                    self.assertEqual(ring.product(a, b), expected)


class FaultTest(unittest.TestCase):
    def test_no_fault(self):
        for prime in PRIMES:
            for ring in all_rings(prime) + great_rings(prime):
                self.assertIsNone(ring_fault(prime, ring.table))

    def test_all_tables_of_size_1(self):
        for prime in PRIMES:
            for number in range(prime):
                self.assertEqual(ring_fault(prime, (((number,),),)), None if number else ("one",))

    def test_tables_by_chance(self):
        for prime in PRIMES:
            seen = set()
            for seed in range(120):
                size = 2 if seed % 2 else 1 + seed % 3
                rows = some_rows(prime, size, size * size, seed)
                table = tuple(tuple(rows[i * size:(i + 1) * size]) for i in range(size))
                fault = ring_fault(prime, table)
                self.assertEqual(fault, self.fault(prime, table))
                seen.add(fault[0] if fault else None)
            self.assertIn("group", seen)

    def test_spoiled_tables(self):
        for prime in PRIMES:
            for ring in plain_rings(prime):
                chance = random.Random(ring.size)
                table = [[list(row) for row in rows] for rows in ring.table]
                place = [chance.randrange(ring.size) for _ in range(3)]
                table[place[0]][place[1]][place[2]] = (table[place[0]][place[1]][place[2]] + 1) % prime
                table = tuple(tuple(tuple(row) for row in rows) for rows in table)
                fault = ring_fault(prime, table)
                self.assertEqual(fault, self.fault(prime, table))
                if fault is None:
                    self.assertEqual(Ring(prime, table).table, table)
                else:
                    self.assertRaises(InvalidRing, Ring, prime, table)

    def test_grouping_without_a_one(self):
        for prime in PRIMES:
            left_only = (((1, 0), (0, 1)), ((0, 0), (0, 0)))
            right_only = (((1, 0), (0, 0)), ((0, 1), (0, 0)))
            nothing = (((0,) * 9,) * 9,) * 9
            for table in (left_only, right_only, nothing):
                self.assertEqual(ring_fault(prime, table), ("one",))
                self.assertRaises(InvalidRing, Ring, prime, table)

    def fault(self, prime, table):
        """The fault, by trying all triples and all members."""
        size = len(table)

        class Plain:
            pass

        plain = Plain()
        plain.size, plain.prime, plain.table = size, prime, table
        rows = units(size)
        for i, j, k in itertools.product(range(size), repeat=3):
            first = multiplied(plain, multiplied(plain, rows[i], rows[j]), rows[k])
            if first != multiplied(plain, rows[i], multiplied(plain, rows[j], rows[k])):
                return ("group", i, j, k)
        if prime ** size > 200:
            return None
        for member in rows_of(prime, size):
            if all(multiplied(plain, member, row) == row == multiplied(plain, row, member) for row in rows):
                return None
        return ("one",)


class OtherBasesTest(unittest.TestCase):
    def test_opposite(self):
        for prime in PRIMES:
            for ring in all_rings(prime) + great_rings(prime):
                other = opposite(ring)
                self.assertEqual(opposite(other), ring)
                for a, b in zip(some_members(ring, 4, 1), some_members(ring, 4, 2)):
                    self.assertEqual(other.product(a, b), ring.product(b, a))

    def test_rebased(self):
        for prime in PRIMES:
            for at, ring in enumerate(all_rings(prime) + great_rings(prime)):
                table = chance_table(prime, ring.size, random.Random(at))
                other = rebased(ring, table)
                self.assertEqual(led(prime, table, other.one), ring.one)
                for a, b in zip(some_members(ring, 4, 1), some_members(ring, 4, 2)):
                    product = ring.product(led(prime, table, a), led(prime, table, b))
                    self.assertEqual(led(prime, table, other.product(a, b)), product)
                    self.assertEqual(ring.is_unit(led(prime, table, a)), other.is_unit(a))
            ring = Ring.stairs(prime, 3)
            self.assertEqual(rebased(ring, units(6)), ring)

    def test_rebased_twice(self):
        for prime in PRIMES:
            ring = Ring.full(prime, 2)
            one, other = (chance_table(prime, 4, random.Random(seed)) for seed in (1, 2))
            self.assertEqual(rebased(rebased(ring, one), other), rebased(ring, followed(prime, other, one)))


class SubringTest(unittest.TestCase):
    def test_made(self):
        for prime in PRIMES:
            for ring in all_rings(prime) + great_rings(prime)[:4]:
                for count in (0, 1, 2, 3):
                    members = tuple(some_members(ring, count, count))
                    space = subring_made(ring, members)
                    self.assertTrue(is_space(prime, ring.size, space) and is_subring(ring, space))
                    for member in members + (ring.one,):
                        self.assertTrue(does_hold(prime, ring.size, space, member))
                self.assertEqual(subring_made(ring, ()), subring_made(ring, (ring.one,) * 100))
                self.assertEqual(len(subring_made(ring, ())), 1)
                self.assertEqual(subring_made(ring, units(ring.size)), units(ring.size))

    def test_it_is_the_least_one(self):
        for prime in (2, 3):
            for ring in low_rings(prime, 81):
                member = some_members(ring, 1, 7)[0]
                closed = {ring.one, member}
                while True:
                    grown = sums_of(prime, ring.size, subset(closed, prime, ring.size))
                    grown |= {ring.product(a, b) for a in grown for b in grown}
                    if grown == closed:
                        break
                    closed = grown
                self.assertEqual(sums_of(prime, ring.size, subring_made(ring, (member,))), closed)

    def test_what_is_a_subring(self):
        for prime in PRIMES:
            ring = Ring.stairs(prime, 2)
            members = rows_of(prime, 3)
            for one, other in itertools.product(members[::max(1, prime - 2)], repeat=2):
                value = tuple(row for row in (one, other))
                if is_space(prime, 3, value):
                    held = sums_of(prime, 3, value)
                    right = ring.one in held and all(ring.product(a, b) in held for a in value for b in value)
                    self.assertIs(is_subring(ring, value), right)
                else:
                    self.assertIs(is_subring(ring, value), False)
            self.assertIs(is_subring(ring, ()), False)
            self.assertIs(is_subring(ring, units(3)), True)
            self.assertIs(is_subring(ring, ((1, 0, 0), (0, 1, 0))), False)
            for value in junk() + [((True, 0, 0),), [ring.one], ((1, 0, 1), (0, 0, 1)), (ring.one, (10 ** 5000, 0, 0))]:
                self.assertIs(is_subring(ring, value), False)

    def test_the_ring_of_a_subring(self):
        for prime in PRIMES:
            for ring in all_rings(prime) + great_rings(prime)[:4]:
                space = subring_made(ring, tuple(some_members(ring, 1, 9)))
                low = ring_of_subring(ring, space)
                self.assertEqual([low.size, low.prime], [len(space), prime])
                self.assertEqual(led(prime, space, low.one), ring.one)
                for a, b in zip(some_members(low, 4, 1), some_members(low, 4, 2)):
                    product = ring.product(led(prime, space, a), led(prime, space, b))
                    self.assertEqual(led(prime, space, low.product(a, b)), product)
                    self.assertEqual(low.is_unit(a), ring.is_unit(led(prime, space, a)))
                self.assertEqual(ring_of_subring(ring, units(ring.size)), ring)


def subset(members, prime, size):
    """Some of the members with the same sums, so that sums are made fast."""
    kept, held = [], {(0,) * size}
    for member in sorted(members):
        if member not in held:
            kept.append(member)
            held = sums_of(prime, size, kept)
    return kept


class UnitsTest(unittest.TestCase):
    """[3.6]"""

    def test_units_are_led_to_0_by_0_alone(self):
        for prime in PRIMES:
            for ring in low_rings(prime, 130):
                members = rows_of(prime, ring.size)
                nothing = (0,) * ring.size
                for a in members[::3]:
                    left = [b for b in members if ring.product(b, a) == nothing]
                    right = [b for b in members if ring.product(a, b) == nothing]
                    self.assertEqual([len(left) == 1, len(right) == 1], [ring.is_unit(a)] * 2)

    def test_fields_are_of_irreducible_polynomials(self):
        for prime in PRIMES:
            for low in rows_of(prime, 2)[:30]:
                poly = low + (1,)
                ring = Ring.of_poly(prime, poly)
                right = all(ring.is_unit(row) for row in rows_of(prime, 2) if row != (0, 0))
                self.assertEqual(right, is_irreducible(prime, poly))

    def test_equal_numbers_do_not_tell_likeness(self):
        self.assertEqual(len(units_by_trial(C4)), len(units_by_trial(V4)))
        self.assertTrue(any(C4.power(row, 2) not in ((0, 0, 0, 0), C4.one) for row in rows_of(2, 4)))
        self.assertTrue(all(V4.power(row, 2) in ((0, 0, 0, 0), V4.one) for row in rows_of(2, 4)))

    def test_known_rings(self):
        self.assertEqual([ring.size for ring in (F2, U3, K9, S3, C4, N4)], [4, 6, 2, 6, 4, 4])
        self.assertEqual([len(units_by_trial(ring)) for ring in (F2, K9, S3, C4)], [6, 8, 12, 8])


if __name__ == "__main__":
    unittest.main()
