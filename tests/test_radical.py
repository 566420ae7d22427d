"""What comes to nothing [5.1] to [5.6], and [0.18]."""

import unittest

from tablerings.base.polys import first_irreducible
from tablerings.base.spaces import does_hold, is_space, space_meet, space_of, space_sum
from tablerings.errors import TooMany
from tablerings.rings import radical as module
from tablerings.rings.ideals import ideal_made, ideal_product, is_ideal, quotient_ring, quotient_row
from tablerings.rings.radical import (
    counted, is_nil_paper, is_nilpotent, nil_paper, radical, radical_by_units, radical_sizes, socle, trace_spaces,
)
from tablerings.rings.rings import Ring, opposite
from tests.samples import (
    C4, F2, K9, N4, PRIMES, S3, U3, all_rings, great_rings, junk, low_ring, low_rings, rows_of, some_rows, sums_of,
    turned, units_by_trial,
)

WHAT = ("units", "nilpotent", "idempotent")


def units(size):
    """The base members."""
    return tuple(tuple(1 if i == j else 0 for j in range(size)) for i in range(size))


def less(ring, one, other):
    """The first member less the second one."""
    return ring.added(one, ring.times(-1, other))


def nil_by_trial(ring):
    """The members x for which 1 - a x is a unit for each a."""
    members, right = rows_of(ring.prime, ring.size), set(units_by_trial(ring))
    return {x for x in members if all(less(ring, ring.one, ring.product(a, x)) in right for a in members)}


def powers(ring, space):
    """The powers of an ideal, from the first one on, until they stay."""
    found = [space]
    while len(found) < 2 or found[-1] != found[-2]:
        found.append(ideal_product(ring, found[-1], space))
    return found


def trace(ring, member, number):
    """t(i, x) as the document tells it, number being the power of the prime."""
    rows = [list(ring.product(member, row)) for row in units(ring.size)]
    power = [list(row) for row in units(ring.size)]
    for _ in range(number):
        power = [[sum(a * rows[k][j] for k, a in enumerate(row)) for j in range(ring.size)] for row in power]
    return sum(power[i][i] for i in range(ring.size))


def all_of_great(prime):
    """Rings of the size 8 and 9, as they are made and told by other base members."""
    return great_rings(prime) + turned(great_rings(prime), prime + 10)


class RadicalTest(unittest.TestCase):
    def test_constant(self):
        self.assertEqual(module.MAX_TRIED, 5000)

    def test_by_trial(self):
        for prime in PRIMES:
            for ring in low_rings(prime, 130):
                self.assertEqual(sums_of(prime, ring.size, radical(ring)), nil_by_trial(ring))

    def test_by_units(self):
        for prime in PRIMES:
            for ring in low_rings(prime, 700):
                space = radical_by_units(ring)
                self.assertTrue(is_space(prime, ring.size, space))
                self.assertEqual(space, radical(ring))

    def test_the_greatest_rings_that_are_tried(self):
        for ring in (Ring.stairs(2, 3), Ring.full(2, 3), low_ring(2, 9), Ring.of_poly(3, (0,) * 7 + (1,)),
                     Ring.both(Ring.stairs(3, 2), Ring.full(3, 2)), low_ring(5, 5), Ring.full(7, 2), Ring.of_poly(7, (0,) * 4 + (1,))):
            self.assertLessEqual(ring.many, 5000)
            for one in (ring, turned([ring], 3)[0]):
                self.assertEqual(radical_by_units(one), radical(one))

    def test_too_many(self):
        for ring in (Ring.of_poly(3, (0,) * 8 + (1,)), Ring.stairs(5, 3), Ring.of_poly(7, (0,) * 5 + (1,)), Ring.full(7, 3)):
            calls = [lambda: radical_by_units(ring)] + [lambda word=word: counted(ring, word) for word in WHAT]
            for call in calls:
                with self.assertRaises(TooMany) as caught:
                    call()
                self.assertEqual(caught.exception.most, 5000)

    def test_what_is_told_of_it(self):
        for prime in PRIMES:
            for ring in all_rings(prime) + all_of_great(prime):
                space = radical(ring)
                self.assertTrue(is_ideal(ring, space))
                self.assertEqual(powers(ring, space)[-1], ())
                self.assertLess(len(space), ring.size)
                low = quotient_ring(ring, space)
                self.assertEqual(radical(low), ())
                self.assertEqual(radical(opposite(ring)), space)
                for row in some_rows(prime, ring.size, 3, 1):
                    member = ring.added((0,) * ring.size, row)
                    one = ideal_made(ring, (member,), side="left")
                    if powers(ring, one)[-1] == ():
                        self.assertEqual(space_sum(prime, ring.size, one, space), space)
                self.assertEqual(radical_sizes(ring), tuple(len(one) for one in powers(ring, space) if one))

    def test_sizes_descend(self):
        for prime in PRIMES:
            for ring in all_rings(prime) + all_of_great(prime):
                sizes = radical_sizes(ring)
                self.assertIs(type(sizes), tuple)
                self.assertEqual(list(sizes), sorted(set(sizes), reverse=True))
            self.assertEqual(radical_sizes(Ring.of_poly(prime, (0,) * 9 + (1,))), (8, 7, 6, 5, 4, 3, 2, 1))
            self.assertEqual([radical_sizes(low_ring(prime, 9)), radical_sizes(Ring.full(prime, 1))], [(8,), ()])

    def test_both(self):
        for prime in PRIMES:
            rings = [Ring.stairs(prime, 2), Ring.of_poly(prime, (0, 0, 1)), Ring.full(prime, 2), low_ring(prime, 3)]
            for one in rings:
                for other in rings:
                    expected = [row + (0,) * other.size for row in radical(one)]
                    expected += [(0,) * one.size + row for row in radical(other)]
                    self.assertEqual(radical(Ring.both(one, other)), tuple(expected))

    def test_all_rings_of_one_nil_row(self):
        """[0.11]"""
        for prime in PRIMES:
            for ring in low_rings(prime, 64):
                space = radical(ring)
                for member in rows_of(prime, ring.size)[::4]:
                    one = ideal_made(ring, (member,))
                    held = does_hold(prime, ring.size, space, member)
                    self.assertEqual(powers(ring, one)[-1] == (), held)


class TraceTest(unittest.TestCase):
    def test_spaces(self):
        for prime in PRIMES:
            for ring in low_rings(prime, 130) + [S3, C4, U3]:
                spaces, number = [], 1
                held = set(rows_of(ring.prime, ring.size))
                while number <= ring.size:
                    for x in held:
                        self.assertEqual(trace(ring, x, number) % number, 0)
                    held = {x for x in held if all(
                        trace(ring, ring.product(x, e), number) // number % ring.prime == 0 for e in units(ring.size))}
                    spaces.append(held)
                    number *= ring.prime
                found = trace_spaces(ring)
                self.assertEqual([sums_of(ring.prime, ring.size, space) for space in found], spaces)
                self.assertIs(type(found), tuple)

    def test_their_number(self):
        for prime in PRIMES:
            for ring in all_rings(prime) + all_of_great(prime):
                spaces = trace_spaces(ring)
                self.assertEqual(len(spaces), len([i for i in range(5) if prime ** i <= ring.size]))
                self.assertTrue(all(is_space(prime, ring.size, space) for space in spaces))
                for one, other in zip(spaces, spaces[1:]):
                    self.assertEqual(space_meet(prime, ring.size, one, other), other)
                self.assertEqual(spaces[-1], radical(ring))

    def test_each_step_is_needed(self):
        self.assertEqual([len(space) for space in trace_spaces(Ring.of_moves(3, (tuple(range(1, 9)) + (0,),)))], [9, 9, 8])
        eight = Ring.of_moves(2, ((1, 2, 3, 0, 5, 6, 7, 4), (4, 7, 6, 5, 2, 1, 0, 3)))
        self.assertEqual([len(space) for space in trace_spaces(eight)], [8, 8, 8, 7])


class SocleTest(unittest.TestCase):
    def test_by_trial(self):
        for prime in PRIMES:
            for ring in low_rings(prime, 130):
                nothing, space = (0,) * ring.size, radical(ring)
                members = rows_of(prime, ring.size)
                left = {x for x in members if all(ring.product(j, x) == nothing for j in space)}
                right = {x for x in members if all(ring.product(x, j) == nothing for j in space)}
                self.assertEqual(sums_of(prime, ring.size, socle(ring)), left)
                self.assertEqual(sums_of(prime, ring.size, socle(ring, side="left")), left)
                self.assertEqual(sums_of(prime, ring.size, socle(ring, side="right")), right)

    def test_it_is_the_sum_of_least_ideals(self):
        for prime in PRIMES:
            for ring in low_rings(prime, 64):
                for side in ("left", "right"):
                    made = {ideal_made(ring, (row,), side=side) for row in rows_of(prime, ring.size)} - {()}
                    total = ()
                    for one in made:
                        if not any(other != one and space_meet(prime, ring.size, one, other) == other for other in made):
                            total = space_sum(prime, ring.size, total, one)
                    self.assertEqual(socle(ring, side=side), total)

    def test_without_j_it_is_all(self):
        for prime in PRIMES:
            for side in ("left", "right"):
                self.assertEqual(socle(Ring.full(prime, 3), side=side), units(9))
                self.assertEqual(len(socle(Ring.of_poly(prime, (0,) * 9 + (1,)), side=side)), 1)


class CountedTest(unittest.TestCase):
    def test_by_trial(self):
        for prime in PRIMES:
            for ring in low_rings(prime, 130):
                members, nothing = rows_of(prime, ring.size), (0,) * ring.size
                gone = [x for x in members if nothing in [ring.power(x, k) for k in range(1, 20)]]
                same = [x for x in members if ring.product(x, x) == x]
                found = [counted(ring, what) for what in WHAT]
                self.assertEqual(found, [len(units_by_trial(ring)), len(gone), len(same)])
                for member in members:
                    self.assertIs(is_nilpotent(ring, member), member in gone)

    def test_modulo_j(self):
        """[5.4]"""
        for prime in PRIMES:
            for ring in low_rings(prime, 1000):
                space = radical(ring)
                low, many = quotient_ring(ring, space), prime ** len(space)
                self.assertEqual(counted(ring, "units"), many * counted(low, "units"))
                self.assertEqual(counted(ring, "nilpotent"), many * counted(low, "nilpotent"))
                self.assertLessEqual(counted(low, "idempotent"), counted(ring, "idempotent"))
                self.assertLessEqual(counted(ring, "idempotent"), many * counted(low, "idempotent"))

    def test_each_class_of_an_idempotent_has_one(self):
        for prime in PRIMES:
            for ring in low_rings(prime, 130):
                space = radical(ring)
                low = quotient_ring(ring, space)
                classes = [quotient_row(ring, space, x) for x in rows_of(prime, ring.size) if ring.product(x, x) == x]
                for row in rows_of(prime, low.size):
                    times = classes.count(row)
                    self.assertEqual(1 <= times <= prime ** len(space), low.product(row, row) == row)

    def test_known_numbers(self):
        for prime in PRIMES:
            whole = (prime ** 2 - 1) * (prime ** 2 - prime)
            self.assertEqual([counted(Ring.full(prime, 2), what) for what in WHAT], [whole, prime ** 2, 2 + prime * (prime + 1)])
            self.assertEqual([counted(Ring.full(prime, 1), what) for what in WHAT], [prime - 1, 1, 2])

    def test_what_is_judged(self):
        for ring in (F2, K9, Ring.full(7, 3)):
            for value in junk() + [(True,) + (0,) * (ring.size - 1), [0] * ring.size, (10 ** 5000,) * ring.size, (0,), 0]:
                self.assertIs(is_nilpotent(ring, value), False)
            self.assertIs(is_nilpotent(ring, (0,) * ring.size), True)
        self.assertIs(is_nilpotent(Ring.full(7, 3), (0, 1, 6, 0, 0, 3, 0, 0, 0)), True)
        self.assertIs(is_nilpotent(Ring.of_poly(2, (0,) * 9 + (1,)), (0, 1) + (0,) * 7), True)


class PaperTest(unittest.TestCase):
    def test_any_paper_is_right(self):
        for prime in PRIMES:
            for ring in all_rings(prime) + all_of_great(prime):
                low = radical(ring)
                for members in self.rows(ring):
                    paper = nil_paper(ring, members)
                    self.assertIs(is_nil_paper(ring, members, paper), True)
                    within = all(does_hold(prime, ring.size, low, row) for row in members)
                    self.assertEqual(paper[0], "power" if within else "stays")
                    self.judge(ring, members, paper)

    def rows(self, ring):
        """Tuples of members: none, some, many, all in J, and some of them in J."""
        some = tuple(some_rows(ring.prime, ring.size, 3, 2))
        low = radical(ring)
        return [(), some[:1], some, some * 33 + some[:1], low, low + some[:1], low[:1], (low * 100)[:100], ((0,) * ring.size,)]

    def judge(self, ring, members, paper):
        """A paper holds by what the document says of it."""
        if paper[0] == "power":
            found = powers(ring, ideal_made(ring, members))
            self.assertEqual(len(paper), 2)
            self.assertEqual(found.index(()) + 1, paper[1])
            return
        word, at, by = paper
        self.assertEqual(word, "stays")
        self.assertIs(ring.is_unit(less(ring, ring.one, ring.product(by, members[at]))), False)

    def test_all_members_of_fields(self):
        for prime in PRIMES:
            for degree in (1, 2):
                ring = Ring.of_poly(prime, first_irreducible(prime, degree))
                for member in rows_of(prime, degree):
                    paper = nil_paper(ring, (member,))
                    self.assertIs(is_nil_paper(ring, (member,), paper), True)
                    self.judge(ring, (member,), paper)

    def test_each_right_paper_is_accepted_and_nothing_else(self):
        for prime in PRIMES:
            for ring in low_rings(prime, 130):
                right = set(units_by_trial(ring))
                low = radical(ring)
                for members in ((), low, tuple(some_rows(prime, ring.size, 2, 4)), low[:1] + (ring.one,)):
                    found = powers(ring, ideal_made(ring, members))
                    for number in range(0, 12):
                        least = () in found and number == found.index(()) + 1
                        self.assertIs(is_nil_paper(ring, members, ("power", number)), least)
                    for at, member in enumerate(members):
                        for by in rows_of(prime, ring.size)[::3]:
                            stays = less(ring, ring.one, ring.product(by, member)) not in right
                            self.assertIs(is_nil_paper(ring, members, ("stays", at, by)), stays)

    def test_what_is_no_paper(self):
        for prime in PRIMES:
            ring = Ring.stairs(prime, 2)
            stays, gone = ((1, 0, 0),), ((0, 1, 0),)
            self.assertTrue(is_nil_paper(ring, stays, ("stays", 0, (1, 0, 0))))
            self.assertTrue(is_nil_paper(ring, gone, ("power", 2)))
            for value in junk() + [
                    ("power", True), ("power", 1), ("power", 3), ("power",), ("power", 2, 0), ["power", 2], ("Power", 2), ("stays", 2),
                    ("power", "2"), ("power", (2,)), ("power", None), ("power", 10 ** 5000), ("stays", False, (1, 0, 0)), ("power", 2, ()),
                    ("stays", 1, (1, 0, 0)), ("stays", -1, (1, 0, 0)), ("stays", 10 ** 5000, (1, 0, 0)), ("stays", 0, [1, 0, 0]),
                    ("stays", 0, (True, 0, 0)), ("stays", 0, (1, 0)), ("stays", 0, (prime, 0, 0)), ("stays", 0, (1, 0, 0), 0),
                    ("stays", "0", (1, 0, 0)), ("stays", 0, None), ("stays", 0, (0, 0, 0)), ["stays", 0, (1, 0, 0)], ("stays", 0),
                    ("stays", (0,), (1, 0, 0)), (ring, 2), (ring, 0, (1, 0, 0)), ({}, 2), "power", ("stays", 0, (0, 1, 0))]:
                self.assertIs(is_nil_paper(ring, stays, value), False)
                self.assertIs(is_nil_paper(ring, gone, value), value == ("power", 2) and value[1] is not True)
            for value in (("power", True), ("power", 1)):
                self.assertIs(is_nil_paper(ring, (), value), value[1] is not True)

    def test_nothing_comes_to_nothing(self):
        for prime in PRIMES:
            for ring in all_rings(prime):
                self.assertEqual(nil_paper(ring, ()), ("power", 1))
                self.assertEqual(nil_paper(ring, ((0,) * ring.size,) * 100), ("power", 1))
            self.assertEqual(nil_paper(Ring.of_poly(prime, (0,) * 9 + (1,)), ((0, 1) + (0,) * 7,)), ("power", 9))


class NotTrueTest(unittest.TestCase):
    """[5.6]"""

    def test_sums_of_members_with_a_power_0(self):
        for prime in PRIMES:
            ring = Ring.full(prime, 2)
            one, other = (0, 1, 0, 0), (0, 0, 1, 0)
            found = [is_nilpotent(ring, row) for row in (one, other, ring.added(one, other))]
            self.assertEqual(found, [True, True, False])
            for members in ((one,), (one, other)):
                self.assertEqual(nil_paper(ring, members)[0], "stays")

    def test_subrings(self):
        for prime in PRIMES:
            self.assertEqual(radical(Ring.full(prime, 3)), ())
            self.assertEqual(len(radical(Ring.stairs(prime, 3))), 3)

    def test_squares(self):
        self.assertEqual([counted(C4, "idempotent"), len(radical(C4))], [2, 3])

    def test_socles(self):
        for prime in PRIMES:
            ring = Ring.stairs(prime, 2)
            self.assertNotEqual(socle(ring), socle(ring, side="right"))

    def test_known_rings(self):
        found = [radical(ring) for ring in (F2, S3, K9)]
        self.assertEqual(found, [(), ((1, 1, 1, 1, 1, 1),), ()])
        self.assertEqual([radical_sizes(ring) for ring in (U3, C4, N4)], [(3, 1), (3, 2, 1), (3, 2, 1)])
        self.assertEqual(space_of(2, 4, radical(C4)), radical(C4))


if __name__ == "__main__":
    unittest.main()
