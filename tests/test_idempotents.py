"""Idempotents [6.1] to [6.8]."""

import itertools
import unittest

from tablerings.base.polys import first_irreducible, poly_product
from tablerings.base.spaces import does_hold, space_of
from tablerings.errors import Refused
from tablerings.rings.ideals import centre, quotient_ring, quotient_row
from tablerings.rings.idempotents import (
    central_parting, is_idempotent, is_least_idempotent, is_leading_unit, is_like_paper, is_parting, leading_unit,
    led_up, like_paper, parting,
)
from tablerings.rings.radical import radical
from tablerings.rings.rings import Ring, opposite, rebased
from tests.samples import (
    C4, F2, K9, N4, PRIMES, S3, U3, V4, all_rings, full_over, great_rings, junk, low_ring, low_rings, rows_of, some_rows,
    turned, units_by_trial,
)


def units(size):
    """The base members."""
    return tuple(tuple(1 if i == j else 0 for j in range(size)) for i in range(size))


def less(ring, one, other):
    """The first member less the second one."""
    return ring.added(one, ring.times(-1, other))


def sum_of(ring, members):
    """The sum of some members."""
    total = (0,) * ring.size
    for member in members:
        total = ring.added(total, member)
    return total


def squares_by_trial(ring):
    """The idempotents."""
    return [x for x in rows_of(ring.prime, ring.size) if ring.product(x, x) == x]


def least_by_trial(ring):
    """The least idempotents: those that are no sum of two others with the products 0."""
    some, nothing = squares_by_trial(ring), (0,) * ring.size
    sums = {ring.added(u, v) for u in some for v in some
            if nothing not in (u, v) and ring.product(u, v) == nothing == ring.product(v, u)}
    return [x for x in some if x != nothing and x not in sums]


def central_by_trial(ring):
    """The least idempotents among those that commute with all members."""
    nothing = (0,) * ring.size
    some = [x for x in squares_by_trial(ring) if all(ring.product(x, a) == ring.product(a, x) for a in units(ring.size))]
    sums = {ring.added(u, v) for u in some for v in some if nothing not in (u, v) and ring.product(u, v) == nothing}
    return tuple(x for x in some if x != nothing and x not in sums)


def is_parting_by_trial(ring, least, value):
    """Whether a tuple of members is a parting, the least idempotents being told."""
    nothing = (0,) * ring.size
    if not all(x in least for x in value) or sum_of(ring, value) != ring.one:
        return False
    return all(ring.product(value[i], value[j]) == nothing
               for i in range(len(value)) for j in range(len(value)) if i != j)


def all_of_great(prime):
    """Rings of the size 8 and 9, as they are made and told by other base members."""
    return great_rings(prime) + turned(great_rings(prime), prime + 20)


def led_by(ring, unit, member):
    """The member that a unit leads a member to: x with member unit = unit x."""
    return ring.product(ring.inverse(unit), ring.product(member, unit))


def some_units(ring, count, seed):
    """Some units of a ring, by chance, and the one."""
    return [row for row in some_rows(ring.prime, ring.size, count, seed) if ring.is_unit(row)] + [ring.one]


class LeastTest(unittest.TestCase):
    def test_by_trial(self):
        for prime in PRIMES:
            for ring in low_rings(prime, 130) + [Ring.stairs(2, 3), S3]:
                least, some = least_by_trial(ring), squares_by_trial(ring)
                for member in rows_of(ring.prime, ring.size):
                    self.assertIs(is_idempotent(ring, member), member in some)
                    if member in some or sum(member) % 5 == 1:
                        self.assertIs(is_least_idempotent(ring, member), member in least)

    def test_what_is_told_of_the_corner(self):
        """[6.1]"""
        for prime in PRIMES:
            for ring in low_rings(prime, 64):
                members, nothing = rows_of(prime, ring.size), (0,) * ring.size
                for e in squares_by_trial(ring):
                    lot = {ring.product(ring.product(e, r), e) for r in members}
                    gone = {x for x in lot if ring.power(x, 20) == nothing}
                    right = e != nothing and all(
                        x in gone or any(ring.product(x, y) == e == ring.product(y, x) for y in lot) for x in lot)
                    self.assertIs(is_least_idempotent(ring, e), right)

    def test_what_is_judged(self):
        for ring in (F2, K9, U3, Ring.full(7, 1)):
            for value in junk() + [(0,) * ring.size, list(ring.one), (True,) + (0,) * (ring.size - 1), (10 ** 5000,) * ring.size]:
                self.assertIs(is_least_idempotent(ring, value), False)
                self.assertIs(is_idempotent(ring, value), value == (0,) * ring.size)
        for prime in PRIMES:
            self.assertIs(is_least_idempotent(Ring.full(prime, 3), (1, 0, 0, 0, 1, 0, 0, 0, 0)), False)
            self.assertIs(is_least_idempotent(Ring.full(prime, 3), (1, 1, 0, 0, 0, 0, 0, 0, 0)), True)

    def test_the_one_of_a_field_and_of_rings_without_other_idempotents(self):
        for prime in PRIMES:
            for poly in (first_irreducible(prime, 6), (0,) * 9 + (1,), first_irreducible(prime, 1)):
                ring = Ring.of_poly(prime, poly)
                for one in (ring, turned([ring], 5)[0]):
                    self.assertIs(is_least_idempotent(one, one.one), True)
                    self.assertEqual(parting(one), (one.one,))
            self.assertEqual(parting(low_ring(prime, 9)), (units(9)[0],))


class LedUpTest(unittest.TestCase):
    def test_by_trial(self):
        for prime in PRIMES:
            for ring in low_rings(prime, 130):
                space = radical(ring)
                for member in rows_of(prime, ring.size)[::2]:
                    gap = less(ring, ring.product(member, member), member)
                    if does_hold(prime, ring.size, space, gap):
                        self.check(ring, space, member)
                    else:
                        with self.assertRaises(Refused) as caught:
                            led_up(ring, member)
                        self.assertEqual(caught.exception.reason, ("open",))

    def check(self, ring, space, member):
        found = led_up(ring, member)
        self.assertIs(is_idempotent(ring, found), True)
        self.assertTrue(does_hold(ring.prime, ring.size, space, less(ring, member, found)))
        return found

    def test_great_rings(self):
        for prime in PRIMES:
            for ring in all_of_great(prime)[::2]:
                space = radical(ring)
                for part in parting(ring) + (ring.one, (0,) * ring.size):
                    found = []
                    for row in space[:1] + space[-1:]:
                        found.append(self.check(ring, space, ring.added(part, row)))
                    for one in found:
                        self.assertTrue(is_like_paper(ring, one, part, like_paper(ring, one, part)))

    def test_idempotents_stay(self):
        for prime in PRIMES:
            for ring in low_rings(prime, 130):
                for member in squares_by_trial(ring)[:9]:
                    found = led_up(ring, member)
                    self.assertTrue(does_hold(prime, ring.size, radical(ring), less(ring, member, found)))
            ring = Ring.of_poly(prime, (0,) * 9 + (1,))
            self.assertEqual(led_up(ring, (1,) * 9), ring.one)
            self.assertEqual(led_up(ring, (0,) + (1,) * 8), (0,) * 9)


class PartingTest(unittest.TestCase):
    def test_any_parting_is_right(self):
        for prime in PRIMES:
            for ring in all_rings(prime) + all_of_great(prime):
                found = parting(ring)
                self.assertIs(is_parting(ring, found), True)
                self.assertIs(is_parting(ring, found[::-1]), True)
                self.assertIs(is_parting(ring, found + found[:1]), False)
                self.assertIs(is_parting(ring, found + ((0,) * ring.size,)), False)
                self.assertIs(is_parting(ring, found[1:]), False)
                if len(found) > 1:
                    self.assertIs(is_parting(ring, (ring.added(found[0], found[1]),) + found[2:]), False)
                for unit in some_units(ring, 2, 3):
                    self.assertIs(is_parting(ring, tuple(led_by(ring, unit, e) for e in found)), True)
                for e in found:
                    self.assertEqual(ring.product(e, e), e)
                self.assertEqual(len(parting(opposite(ring))), len(found))
                self.assertEqual(len(parting(quotient_ring(ring, radical(ring)))), len(found))

    def test_by_trial(self):
        for prime in PRIMES:
            for ring in low_rings(prime, 130):
                least = least_by_trial(ring)
                self.assertTrue(is_parting_by_trial(ring, least, parting(ring)))
                some = squares_by_trial(ring)
                for count in range(4):
                    for value in itertools.islice(itertools.product(some[:12], repeat=count), 300):
                        self.assertIs(is_parting(ring, value), is_parting_by_trial(ring, least, value))
                for value in itertools.islice(itertools.product(least, repeat=2), 300):
                    self.assertIs(is_parting(ring, value), is_parting_by_trial(ring, least, value))

    def test_lengths(self):
        for prime in PRIMES:
            for side in (1, 2, 3):
                self.assertEqual([len(parting(Ring.full(prime, side))), len(parting(Ring.stairs(prime, side)))], [side] * 2)
            field2, field4, field5 = (first_irreducible(prime, degree) for degree in (2, 4, 5))
            self.assertEqual(len(parting(full_over(prime, field2, 2))), 2)
            self.assertEqual(len(parting(Ring.of_poly(prime, poly_product(prime, field4, field5)))), 2)
            self.assertEqual(len(parting(Ring.both(Ring.full(prime, 2), Ring.of_poly(prime, field5)))), 3)
            if prime > 2:
                roots = (1,)
                for number in range(prime):
                    roots = poly_product(prime, roots, (-number % prime, 1))
                self.assertEqual(len(parting(Ring.of_poly(prime, roots))), prime)

    def test_where_the_first_base_members_make_a_field(self):
        for prime in PRIMES:
            ring = full_over(prime, first_irreducible(prime, 2), 2)
            whole = units(8)
            found = next(x for x in some_rows(prime, 8, 400, 1) if self.degree(ring, x) == 4)
            rows = [ring.power(found, number) for number in range(4)]
            for row in whole:
                if len(space_of(prime, 8, tuple(rows) + (row,))) > len(rows):
                    rows.append(row)
            other = rebased(ring, tuple(rows))
            self.assertEqual(other.power((0, 1) + (0,) * 6, prime ** 4), (0, 1) + (0,) * 6)
            self.assertTrue(is_parting(other, parting(other)))
            self.assertEqual(len(parting(other)), 2)

    def degree(self, ring, member):
        """How many powers of a member are independent, if they make a field; 0 otherwise."""
        powers = tuple(ring.power(member, number) for number in range(5))
        fixed = [ring.power(member, ring.prime ** k) == member for k in (1, 2, 4)]
        return len(space_of(ring.prime, ring.size, powers)) if fixed == [False, False, True] else 0

    def test_what_is_judged(self):
        for ring in (F2, K9, U3, Ring.full(7, 3)):
            right = parting(ring)
            for value in junk() + [(), list(right), right + (None,), right * 50, (10 ** 5000,), [ring.one], (list(ring.one),),
                                   tuple(tuple(bool(number) for number in row) for row in right), ((0,) * ring.size,)]:
                self.assertIs(is_parting(ring, value), False)


class LikeTest(unittest.TestCase):
    def test_by_trial(self):
        for ring in (F2, Ring.stairs(2, 2), C4, V4, Ring.stairs(3, 2), K9, Ring.of_poly(5, (0, 4, 1)), Ring.of_poly(7, (0, 6, 1)),
                     Ring.both(Ring.full(2, 1), Ring.of_poly(2, (1, 1, 1))), Ring.full(3, 2)):
            members, some = rows_of(ring.prime, ring.size), squares_by_trial(ring)
            group = units_by_trial(ring)
            for e in some[::1 + len(some) // 8]:
                led = {led_by(ring, g, e) for g in group}
                for f in some:
                    paper = like_paper(ring, e, f)
                    self.assertEqual(paper is not None, f in led)
                    self.assertIs(is_like_paper(ring, e, f, paper), f in led)
            if len(members) < 30:
                self.judge_all(ring, members, some)

    def judge_all(self, ring, members, some):
        """Each pair of members is judged by what the document says of it."""
        for e, f in itertools.product(some, repeat=2):
            for u, v in itertools.product(members, repeat=2):
                right = ring.product(u, v) == e and ring.product(v, u) == f
                self.assertIs(is_like_paper(ring, e, f, (u, v)), right)

    def test_sums_of_parts(self):
        for prime in PRIMES:
            for ring in all_rings(prime) + all_of_great(prime)[::3]:
                found = parting(ring)
                unit = some_units(ring, 3, 9)[0]
                low = quotient_ring(ring, radical(ring))
                for count in range(len(found) + 1):
                    e, f = sum_of(ring, found[:count]), sum_of(ring, [led_by(ring, unit, x) for x in found[:count]])
                    paper = like_paper(ring, e, f)
                    self.assertTrue(is_like_paper(ring, e, f, paper))
                    u, v = paper
                    self.assertEqual([ring.product(u, v), ring.product(v, u)], [e, f])
                    rest = sum_of(ring, found[count:])
                    rows = [quotient_row(ring, radical(ring), x) for x in (e, rest)]
                    self.assertEqual(like_paper(ring, e, rest) is None, like_paper(low, rows[0], rows[1]) is None)

    def test_each_paper_right_next_to_a_right_one(self):
        for prime in PRIMES:
            ring = Ring.full(prime, 2)
            e, f = (1, 0, 0, 0), (0, 0, 0, 1)
            for number in range(1, prime):
                undone = pow(number, -1, prime)
                self.assertIs(is_like_paper(ring, e, f, ((0, number, 0, 0), (0, 0, undone, 0))), True)
                self.assertIs(is_like_paper(ring, e, f, ((0, 0, undone, 0), (0, number, 0, 0))), False)
                self.assertIs(is_like_paper(ring, e, f, ((0, number, 0, 1), (0, 0, undone, 0))), False)
            self.assertIs(is_like_paper(ring, e, f, ((0, 1, 0, 0), (0, 0, 1, 0), e)), False)
            self.assertIs(is_like_paper(ring, e, f, [(0, 1, 0, 0), (0, 0, 1, 0)]), False)
            self.assertIs(is_like_paper(ring, e, f, ((0, True, 0, 0), (0, 0, 1, 0))), False)
            for value in junk() + [(e,), ((0, 1, 0, 0), None), (10 ** 5000, e), ((0, 10 ** 5000, 0, 0), (0, 0, 1, 0))]:
                self.assertIs(is_like_paper(ring, e, f, value), False)

    def test_pairs_that_stand_outside_of_the_corners(self):
        for prime in PRIMES:
            ring = Ring.stairs(prime, 2)
            e = (1, 0, 0)
            self.assertIs(is_like_paper(ring, e, e, (e, e)), True)
            nothing = (0, 0, 0)
            self.assertIs(is_like_paper(ring, nothing, nothing, ((0, 1, 0), (0, 1, 0))), True)
            self.assertIs(is_like_paper(ring, nothing, nothing, ((0, 1, 0), (1, 0, 0))), False)

    def test_nothing(self):
        for prime in PRIMES:
            for ring in all_rings(prime):
                nothing = (0,) * ring.size
                self.assertTrue(is_like_paper(ring, nothing, nothing, like_paper(ring, nothing, nothing)))
                self.assertIsNone(like_paper(ring, nothing, ring.one))
                self.assertIsNone(like_paper(ring, ring.one, nothing))
                self.assertTrue(is_like_paper(ring, ring.one, ring.one, like_paper(ring, ring.one, ring.one)))


class LeadingTest(unittest.TestCase):
    def test_any_pair_is_right(self):
        for prime in PRIMES:
            for ring in all_rings(prime) + all_of_great(prime)[1::2]:
                one = parting(ring)
                mirror = parting(opposite(ring))
                for other in (one, one[::-1], mirror, tuple(led_by(ring, some_units(ring, 3, 5)[0], e) for e in one[1:] + one[:1])):
                    pair = leading_unit(ring, one, other)
                    self.assertIs(is_leading_unit(ring, one, other, pair), True)
                    g, t = pair
                    self.assertTrue(ring.is_unit(g))
                    self.assertEqual(sorted(t), list(range(len(one))))
                    for i, e in enumerate(one):
                        self.assertEqual(ring.product(e, g), ring.product(g, other[t[i]]))
                        self.assertEqual(led_by(ring, g, e), other[t[i]])

    def test_all_pairs(self):
        for ring in (F2, Ring.stairs(2, 2), K9, Ring.of_poly(5, (0, 4, 1)), Ring.stairs(3, 2), Ring.of_poly(7, (0, 6, 1))):
            one = parting(ring)
            other = tuple(led_by(ring, some_units(ring, 9, 8)[0], e) for e in one[::-1])
            group = units_by_trial(ring)
            for g in rows_of(ring.prime, ring.size):
                for t in itertools.permutations(range(len(one))):
                    right = g in group and all(ring.product(one[i], g) == ring.product(g, other[at]) for i, at in enumerate(t))
                    self.assertIs(is_leading_unit(ring, one, other, (g, t)), right)

    def test_what_is_judged(self):
        for prime in PRIMES:
            ring = Ring.full(prime, 2)
            one = ((1, 0, 0, 0), (0, 0, 0, 1))
            self.assertIs(is_leading_unit(ring, one, one, (ring.one, (0, 1))), True)
            self.assertIs(is_leading_unit(ring, one, one, (ring.one, (1, 0))), False)
            self.assertIs(is_leading_unit(ring, one, one, ((0, 1, 1, 0), (1, 0))), True)
            for value in junk() + [(ring.one,), (ring.one, (0, 1), ()), (ring.one, [0, 1]), [ring.one, (0, 1)], (ring.one, (False, True)),
                                   (ring.one, (0, 0)), (ring.one, (0,)), (ring.one, (0, 1, 2)), (ring.one, (0, 10 ** 5000)),
                                   (ring.one, ("0", "1")), (ring.one, (0, None)), ((1, 0, 0, 0), (0, 1)), ((0,) * 4, (0, 1)),
                                   ((True, 0, 0, 1), (0, 1)), (ring.one, ()), (ring.one, (-2, -1)), (ring.one, 0), ((0, 1), ring.one)]:
                self.assertIs(is_leading_unit(ring, one, one, value), False)


class CentralTest(unittest.TestCase):
    def test_by_trial(self):
        for prime in PRIMES:
            for ring in low_rings(prime, 130) + [S3, U3, C4]:
                self.assertEqual(central_parting(ring), central_by_trial(ring))

    def test_what_is_told_of_it(self):
        for prime in PRIMES:
            for ring in all_rings(prime) + all_of_great(prime):
                found = central_parting(ring)
                self.assertEqual(list(found), sorted(set(found)))
                self.assertEqual(sum_of(ring, found), ring.one)
                for e in found:
                    self.assertNotEqual(e, (0,) * ring.size)
                    for a in units(ring.size):
                        self.assertEqual(ring.product(e, a), ring.product(a, e))
                for e, f in itertools.product(found, repeat=2):
                    self.assertEqual(ring.product(e, f), e if e == f else (0,) * ring.size)
                sizes = [len(space_of(prime, ring.size, tuple(ring.product(a, e) for a in units(ring.size)))) for e in found]
                self.assertEqual(sum(sizes), ring.size)
                self.assertEqual(central_parting(opposite(ring)), found)

    def test_blocks(self):
        for prime in PRIMES:
            one, other = Ring.stairs(prime, 2), Ring.full(prime, 2)
            found = central_parting(Ring.both(one, other))
            self.assertEqual(found, ((0,) * 3 + other.one, one.one + (0,) * 4))
            self.assertEqual([len(central_parting(ring)) for ring in (one, other, Ring.full(prime, 1))], [1, 1, 1])
            three = Ring.both(Ring.both(one, Ring.full(prime, 1)), other)
            self.assertEqual(len(central_parting(three)), 3)

    def test_rings_that_commute_have_one_parting(self):
        """[6.7]"""
        seen = 0
        for prime in PRIMES:
            for ring in all_rings(prime) + all_of_great(prime):
                if len(centre(ring)) == ring.size:
                    seen += 1
                    self.assertEqual(tuple(sorted(parting(ring))), central_parting(ring))
        self.assertGreater(seen, 20)

    def test_units_beside_j(self):
        """[6.7]"""
        for prime in PRIMES:
            for ring in all_rings(prime) + all_of_great(prime):
                for e in parting(ring)[:1]:
                    for j in radical(ring)[:2]:
                        found = led_by(ring, ring.added(ring.one, j), e)
                        self.assertTrue(is_idempotent(ring, found))
                        self.assertTrue(is_like_paper(ring, e, found, like_paper(ring, e, found)))
                for j in radical(ring):
                    self.assertFalse(is_idempotent(ring, j))


class NotTrueTest(unittest.TestCase):
    """[6.8]"""

    def test_two_idempotents_commute(self):
        one, other = (1, 0, 0, 0), (1, 1, 0, 0)
        for prime in PRIMES:
            ring = Ring.full(prime, 2)
            self.assertTrue(is_idempotent(ring, one) and is_idempotent(ring, other))
            self.assertNotEqual(ring.product(one, other), ring.product(other, one))

    def test_products_that_are_0_one_way_round(self):
        e, f = (0, 0, 0, 1, 0, 0), (1, 1, 0, 0, 0, 0)
        self.assertTrue(is_idempotent(U3, e) and is_idempotent(U3, f))
        self.assertEqual([U3.product(e, f) == (0,) * 6, U3.product(f, e) == (0,) * 6], [True, False])
        self.assertIs(is_parting(U3, (e, f, (0, 0, 0, 0, 0, 1))), False)

    def test_the_number_of_idempotents(self):
        self.assertEqual(len(squares_by_trial(Ring.stairs(2, 2))), 6)

    def test_rooms_of_one_size(self):
        for prime in PRIMES:
            ring = Ring.both(Ring.full(prime, 1), Ring.full(prime, 1))
            self.assertIsNone(like_paper(ring, (1, 0), (0, 1)))

    def test_the_rings_of_the_examples(self):
        self.assertEqual([len(parting(ring)) for ring in (F2, U3, K9, S3, C4, N4, V4)], [2, 3, 1, 3, 1, 1, 1])
        self.assertEqual([len(central_parting(ring)) for ring in (F2, U3, K9, S3, C4, N4, V4)], [1, 1, 1, 2, 1, 1, 1])


if __name__ == "__main__":
    unittest.main()
