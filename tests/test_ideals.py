"""Ideals, quotients, and what commutes [4.1] to [4.6]."""

import itertools
import unittest

from tablerings.base.spaces import does_hold, is_space, space_meet, space_of, space_sum
from tablerings.rings import ideals
from tablerings.rings.ideals import (
    centralizer, centre, commutators, ideal_made, ideal_product, is_ideal, killers, quotient_ring, quotient_row,
)
from tablerings.rings.rings import Ring, is_subring, opposite
from tests.samples import (
    C4, F2, K9, N4, PRIMES, S3, U3, all_rings, great_rings, junk, low_rings, rows_of, some_rows, sums_of,
)

SIDES = ("left", "right", "both")
OTHER_SIDE = {"left": "right", "right": "left", "both": "both"}


def units(size):
    """The base members."""
    return tuple(tuple(1 if i == j else 0 for j in range(size)) for i in range(size))


def some_members(ring, count, seed):
    """Some members of a ring, by chance; the first one of them has few numbers other than 0."""
    rows = some_rows(ring.prime, ring.size, count, seed)
    return tuple([units(ring.size)[seed % ring.size]] + rows[1:] if rows else [])


def made_by_trial(ring, members, side):
    """All sums of products a x, x a or a x b."""
    base = units(ring.size)
    if side == "left":
        rows = [ring.product(a, x) for a in base for x in members]
    elif side == "right":
        rows = [ring.product(x, a) for a in base for x in members]
    else:
        rows = [ring.product(ring.product(a, x), b) for a in base for b in base for x in members]
    return sums_of(ring.prime, ring.size, rows)


def is_ideal_by_trial(ring, held, side):
    """Whether a set of members has all products with members."""
    base = units(ring.size)
    left = all(ring.product(a, x) in held for a in base for x in held)
    right = all(ring.product(x, a) in held for a in base for x in held)
    return {"left": left, "right": right, "both": left and right}[side]


def all_ideals(ring, side):
    """All ideals of a side: sums of those that are made by one member."""
    found = {()}
    for member in rows_of(ring.prime, ring.size):
        made = ideal_made(ring, (member,), side=side)
        found |= {space_sum(ring.prime, ring.size, made, other) for other in found}
    return found


class IdealTest(unittest.TestCase):
    def test_constant(self):
        self.assertEqual(ideals.SIDES, SIDES)

    def test_made(self):
        for prime in PRIMES:
            for ring in low_rings(prime, 130):
                for count in (0, 1, 2):
                    members = some_members(ring, count, count)
                    for side in SIDES:
                        space = ideal_made(ring, members, side=side)
                        self.assertTrue(is_space(prime, ring.size, space) and is_ideal(ring, space, side=side))
                        self.assertEqual(sums_of(prime, ring.size, space), made_by_trial(ring, members, side))
                        self.assertTrue(set(members) <= sums_of(prime, ring.size, space))
                    self.assertEqual(ideal_made(ring, members), ideal_made(ring, members, side="both"))

    def test_made_in_great_rings(self):
        for prime in PRIMES:
            for ring in great_rings(prime):
                for side in SIDES:
                    members = some_members(ring, 1, 3)
                    space = ideal_made(ring, members, side=side)
                    self.assertTrue(is_ideal(ring, space, side=side))
                    self.assertTrue(does_hold(prime, ring.size, space, members[0]))
                    self.assertEqual(ideal_made(ring, space, side=side), space)
                    self.assertEqual(ideal_made(opposite(ring), members, side=OTHER_SIDE[side]), space)
                    self.assertEqual(ideal_made(ring, members * 100, side=side), space)

    def test_the_edges(self):
        for prime in PRIMES:
            for ring in all_rings(prime) + great_rings(prime):
                for side in SIDES:
                    self.assertEqual(ideal_made(ring, (), side=side), ())
                    self.assertEqual(ideal_made(ring, ((0,) * ring.size,), side=side), ())
                    self.assertEqual(ideal_made(ring, (ring.one,), side=side), units(ring.size))
                    self.assertIs(is_ideal(ring, (), side=side), True)
                    self.assertIs(is_ideal(ring, units(ring.size), side=side), True)

    def test_which_spaces_are_ideals(self):
        for prime in PRIMES:
            for ring in low_rings(prime, 64):
                for seed in range(8):
                    value = space_of(prime, ring.size, tuple(some_rows(prime, ring.size, 1 + seed % 2, seed)))
                    held = sums_of(prime, ring.size, value)
                    for side in SIDES:
                        self.assertIs(is_ideal(ring, value, side=side), is_ideal_by_trial(ring, held, side))
                    self.assertIs(is_ideal(ring, value), is_ideal_by_trial(ring, held, "both"))

    def test_what_is_judged(self):
        for side in SIDES:
            for value in junk() + [((0, 1, 0, 0), (1, 0, 0, 0)), ((0, 1, 0, True),), [(0, 1, 0, 0)], ((10 ** 5000, 0, 0, 0),)]:
                self.assertIs(is_ideal(F2, value, side=side), False)
            self.assertIs(is_ideal(K9, ((0, 2),), side=side), False)

    def test_sums_and_meets(self):
        for prime in PRIMES:
            for ring in all_rings(prime):
                for side in SIDES:
                    one, other = (ideal_made(ring, some_members(ring, 1, seed), side=side) for seed in (1, 2))
                    for space in (space_sum(prime, ring.size, one, other), space_meet(prime, ring.size, one, other)):
                        self.assertTrue(is_ideal(ring, space, side=side))


class ProductTest(unittest.TestCase):
    def spaces(self, ring):
        """Some spaces of members."""
        return [space_of(ring.prime, ring.size, some_members(ring, count, count)) for count in (0, 1, 2, 3)]

    def test_products(self):
        for prime in PRIMES:
            for ring in low_rings(prime, 130):
                for one, other in itertools.product(self.spaces(ring), repeat=2):
                    space = ideal_product(ring, one, other)
                    self.assertTrue(is_space(prime, ring.size, space))
                    products = [ring.product(a, b) for a in one for b in other]
                    self.assertEqual(sums_of(prime, ring.size, space), sums_of(prime, ring.size, products))

    def test_brackets(self):
        for prime in PRIMES:
            for ring in all_rings(prime):
                _, one, two, three = self.spaces(ring)
                self.assertEqual(ideal_product(ring, ideal_product(ring, one, two), three),
                                 ideal_product(ring, one, ideal_product(ring, two, three)))

    def test_products_of_ideals(self):
        for prime in PRIMES:
            for ring in all_rings(prime) + great_rings(prime)[:3]:
                members = [some_members(ring, 1, seed) for seed in (1, 2)]
                left, right = ideal_made(ring, members[0], side="left"), ideal_made(ring, members[1], side="right")
                self.assertTrue(is_ideal(ring, ideal_product(ring, left, right)))
                one, other = (ideal_made(ring, some) for some in members)
                space = ideal_product(ring, one, other)
                self.assertEqual(space_meet(prime, ring.size, space, space_meet(prime, ring.size, one, other)), space)
                self.assertEqual([ideal_product(ring, (), one), ideal_product(ring, one, ())], [(), ()])
                self.assertEqual(ideal_product(ring, units(ring.size), one), one)


class QuotientTest(unittest.TestCase):
    def proper(self, ring):
        """Some ideals other than the whole ring."""
        made = [ideal_made(ring, some_members(ring, 1, seed)) for seed in range(ring.size)]
        return [()] + [space for space in made if 0 < len(space) < ring.size]

    def test_sums_and_products_go_over(self):
        seen = 0
        for prime in PRIMES:
            for ring in all_rings(prime) + great_rings(prime):
                for space in self.proper(ring):
                    seen += len(space) > 0
                    low = quotient_ring(ring, space)
                    self.assertEqual([low.prime, low.size], [prime, ring.size - len(space)])
                    self.assertEqual(quotient_row(ring, space, ring.one), low.one)
                    for a, b in zip(some_rows(prime, ring.size, 4, 1), some_rows(prime, ring.size, 4, 2)):
                        one, other = quotient_row(ring, space, a), quotient_row(ring, space, b)
                        self.assertEqual(quotient_row(ring, space, ring.added(a, b)), low.added(one, other))
                        self.assertEqual(quotient_row(ring, space, ring.product(a, b)), low.product(one, other))
        self.assertGreater(seen, 100)

    def test_classes(self):
        for prime in PRIMES:
            for ring in low_rings(prime, 64):
                for space in self.proper(ring):
                    held = sums_of(prime, ring.size, space)
                    for member in rows_of(prime, ring.size)[::5]:
                        row = quotient_row(ring, space, member)
                        other = ring.added(member, sorted(held)[len(held) // 2])
                        self.assertEqual(quotient_row(ring, space, other), row)
                        self.assertEqual(row == (0,) * (ring.size - len(space)), member in held)

    def test_the_base_is_at_the_free_places(self):
        for prime in PRIMES:
            for ring in all_rings(prime):
                for space in self.proper(ring):
                    leads = [next(at for at, number in enumerate(row) if number) for row in space]
                    free = [at for at in range(ring.size) if at not in leads]
                    rows = [quotient_row(ring, space, units(ring.size)[at]) for at in free]
                    self.assertEqual(tuple(rows), units(len(free)))

    def test_by_nothing(self):
        for prime in PRIMES:
            for ring in all_rings(prime) + great_rings(prime):
                self.assertEqual(quotient_ring(ring, ()), ring)
                self.assertEqual(quotient_row(ring, (), ring.one), ring.one)

    def test_ideals_go_over_one_by_one(self):
        for prime in (2, 3):
            for ring in low_rings(prime, 81):
                for space in self.proper(ring):
                    low = quotient_ring(ring, space)
                    for side in SIDES:
                        above = [one for one in all_ideals(ring, side) if space_meet(prime, ring.size, one, space) == space]
                        over = {space_of(prime, low.size, tuple(quotient_row(ring, space, row) for row in one))
                                for one in above}
                        self.assertEqual(len(over), len(above))
                        self.assertEqual(over, all_ideals(low, side))


class CommutingTest(unittest.TestCase):
    def test_by_trial(self):
        for prime in PRIMES:
            for ring in low_rings(prime, 130):
                members = rows_of(prime, ring.size)
                for some in ((), some_members(ring, 1, 5), some_members(ring, 2, 6), units(ring.size)):
                    right = {a for a in members if all(ring.product(a, b) == ring.product(b, a) for b in some)}
                    self.assertEqual(sums_of(prime, ring.size, centralizer(ring, some)), right)
                self.assertEqual(centre(ring), centralizer(ring, units(ring.size)))
                gaps = [ring.added(ring.product(a, b), ring.times(-1, ring.product(b, a)))
                        for a in units(ring.size) for b in units(ring.size)]
                self.assertEqual(sums_of(prime, ring.size, commutators(ring)), sums_of(prime, ring.size, gaps))

    def test_what_is_told_of_them(self):
        for prime in PRIMES:
            for ring in all_rings(prime) + great_rings(prime):
                some = some_members(ring, 2, 7)
                space = centralizer(ring, some)
                again = centralizer(ring, space)
                self.assertTrue(is_subring(ring, space) and is_space(prime, ring.size, space))
                self.assertTrue(all(does_hold(prime, ring.size, space, row) for row in centre(ring)))
                self.assertTrue(all(does_hold(prime, ring.size, again, row) for row in some))
                self.assertEqual(centralizer(ring, again), space)
                self.assertEqual(centralizer(ring, ()), units(ring.size))
                self.assertEqual(centralizer(ring, some * 50), space)
                self.assertEqual(commutators(ring) == (), centre(ring) == units(ring.size))

    def test_the_greatest_quotient_that_commutes(self):
        for prime in (2, 3):
            for ring in low_rings(prime, 81):
                made = ideal_made(ring, commutators(ring))
                for space in all_ideals(ring, "both"):
                    if len(space) < ring.size:
                        low = quotient_ring(ring, space)
                        within = space_meet(prime, ring.size, space, made) == made
                        self.assertEqual(centre(low) == units(low.size), within)


class KillersTest(unittest.TestCase):
    def test_by_trial(self):
        for prime in PRIMES:
            for ring in low_rings(prime, 130):
                members, nothing = rows_of(prime, ring.size), (0,) * ring.size
                for some in ((), some_members(ring, 1, 2), some_members(ring, 2, 1)):
                    left = {x for x in members if all(ring.product(x, y) == nothing for y in some)}
                    right = {x for x in members if all(ring.product(y, x) == nothing for y in some)}
                    self.assertEqual(sums_of(prime, ring.size, killers(ring, some)), left)
                    self.assertEqual(sums_of(prime, ring.size, killers(ring, some, side="left")), left)
                    self.assertEqual(sums_of(prime, ring.size, killers(ring, some, side="right")), right)

    def test_what_is_told_of_them(self):
        for prime in PRIMES:
            for ring in all_rings(prime) + great_rings(prime):
                some = some_members(ring, 2, 3)
                left, right = killers(ring, some, side="left"), killers(ring, some, side="right")
                self.assertTrue(is_ideal(ring, left, side="left") and is_ideal(ring, right, side="right"))
                made = ideal_made(ring, some, side="left")
                self.assertTrue(is_ideal(ring, killers(ring, made)))
                again = killers(ring, right, side="left")
                self.assertTrue(all(does_hold(prime, ring.size, again, row) for row in some))
                self.assertEqual(killers(ring, again, side="right"), right)
                self.assertEqual(killers(ring, (), side="right"), units(ring.size))
                self.assertEqual([killers(ring, (ring.one,), side=side) for side in ("left", "right")], [(), ()])
                self.assertEqual(killers(ring, some * 50, side="right"), right)
                self.assertEqual(killers(opposite(ring), some, side="right"), left)


class NotTrueTest(unittest.TestCase):
    """[4.6]"""

    def test_sides(self):
        for prime in PRIMES:
            ring = Ring.full(prime, 2)
            left = ideal_made(ring, ((0, 1, 0, 0),), side="left")
            self.assertIs(is_ideal(ring, left, side="left"), True)
            self.assertIs(is_ideal(ring, left, side="right"), False)

    def test_left_ideals_that_are_no_left_killers(self):
        ring = Ring.stairs(2, 2)
        left = ((1, 0, 0), (0, 1, 0))
        self.assertIs(is_ideal(ring, left, side="left"), True)
        some = [killers(ring, members) for count in range(4) for members in itertools.combinations(rows_of(2, 3), count)]
        self.assertNotIn(left, some)
        known = {killers(F2, members) for count in range(4) for members in itertools.combinations(rows_of(2, 4), count)}
        self.assertTrue(all_ideals(F2, "left") <= known)

    def test_products_of_left_ideals(self):
        one, other = (ideal_made(F2, (row,), side="left") for row in ((1, 0, 0, 0), (0, 1, 0, 0)))
        space = ideal_product(F2, one, other)
        self.assertNotEqual(space_meet(2, 4, space, one), space)

    def test_commutators(self):
        self.assertIs(is_ideal(F2, commutators(F2)), False)
        self.assertEqual(ideal_made(F2, commutators(F2)), units(4))

    def test_the_rings_of_the_examples(self):
        for ring in (U3, S3, C4, N4):
            self.assertEqual(len(commutators(ring)) == 0, ring in (C4, N4))


if __name__ == "__main__":
    unittest.main()
