"""Full parts [7.1] to [7.6]."""

import itertools
import unittest

from tablerings.base.polys import first_irreducible, is_irreducible, poly_product
from tablerings.base.spaces import does_hold, solution, space_of, space_sum
from tablerings.errors import InvalidOperation, InvalidSpace, Refused
from tablerings.rings.full import (
    full_parts, idempotent_kinds, is_part_paper, kinds, nilpotent_number, part_entries, part_one, part_paper, unit_number,
)
from tablerings.rings.ideals import ideal_made, is_ideal, quotient_ring
from tablerings.rings.idempotents import central_parting, parting
from tablerings.rings.radical import counted, radical
from tablerings.rings.rings import Ring, opposite
from tests.samples import (
    C4, F2, K9, N4, PRIMES, S3, U3, V4, all_rings, full_over, great_rings, junk, low_ring, low_rings, rows_of, some_rows,
    sums_of, turned, units_by_trial,
)


def units(size):
    """The base members."""
    return tuple(tuple(1 if i == j else 0 for j in range(size)) for i in range(size))


def product(ring, *members):
    """The product of some members."""
    made = ring.one
    for member in members:
        made = ring.product(made, member)
    return made


def sum_of(ring, members):
    """The sum of some members."""
    total = (0,) * ring.size
    for member in members:
        total = ring.added(total, member)
    return total


def without_nil(prime):
    """Rings whose J is 0: one full part and several, as they are made and told by other base members."""
    field2, field3 = first_irreducible(prime, 2), first_irreducible(prime, 3)
    one, pair = Ring.full(prime, 1), Ring.full(prime, 2)
    rings = [
        one, pair, Ring.full(prime, 3), Ring.of_poly(prime, field2), Ring.of_poly(prime, first_irreducible(prime, 6)),
        Ring.both(one, one), Ring.both(pair, one), Ring.both(pair, pair), Ring.both(Ring.of_poly(prime, field2), pair),
        full_over(prime, field2, 2), Ring.both(one, full_over(prime, field2, 2)), Ring.of_poly(prime, poly_product(prime, field2, field3)),
        Ring.both(Ring.both(one, Ring.of_poly(prime, field2)), Ring.both(one, pair)),
        Ring.of_poly(prime, poly_product(prime, field2, first_irreducible(prime, 4))),
    ]
    return rings + turned(rings, prime + 80)


def is_paper(ring, space, value):
    """Whether a pair is a part paper, by the document's words; it has the form of one."""
    table, maker = value
    one = next(u for u in sums_of(ring.prime, ring.size, space) if all(
        ring.product(u, x) == x == ring.product(x, u) for x in space))
    count, nothing = len(table), (0,) * ring.size
    members = [member for row in table for member in row] + [maker]
    if not all(does_hold(ring.prime, ring.size, space, member) for member in members):
        return False
    for i, j, k, l in itertools.product(range(count), repeat=4):
        if ring.product(table[i][j], table[k][l]) != (table[i][l] if j == k else nothing):
            return False
    if sum_of(ring, [table[i][i] for i in range(count)]) != one:
        return False
    if any(ring.product(maker, x) != ring.product(x, maker) for x in space):
        return False
    powers = [one]
    while True:
        following = ring.product(powers[-1], maker)
        found = solution(ring.prime, tuple(powers), following)
        if found is not None:
            break
        powers.append(following)
    poly = tuple(-number % ring.prime for number in found) + (1,)
    return is_irreducible(ring.prime, poly) and count * count * len(found) == len(space)


class PartsTest(unittest.TestCase):
    def test_parts(self):
        """[7.1]"""
        for prime in PRIMES:
            for ring in without_nil(prime):
                parts, nothing = full_parts(ring), (0,) * ring.size
                self.assertEqual(list(parts), sorted(parts))
                self.assertEqual(sum(len(part) for part in parts), ring.size)
                self.assertEqual(len(space_of(prime, ring.size, tuple(row for part in parts for row in part))), ring.size)
                for part in parts:
                    self.assertTrue(is_ideal(ring, part) and part)
                    for row in part + tuple(ring.added(part[0], row) for row in part):
                        self.assertIn(ideal_made(ring, (row,)), (part, ()))
                for one, other in itertools.permutations(parts, 2):
                    self.assertTrue(all(ring.product(x, y) == nothing for x in one for y in other))
                ones = [part_one(ring, part) for part in parts]
                self.assertEqual(sum_of(ring, ones), ring.one)
                self.assertEqual(tuple(sorted(ones)), central_parting(ring))
                for part, one in zip(parts, ones):
                    self.assertTrue(does_hold(prime, ring.size, part, one))
                    self.assertTrue(all(ring.product(one, x) == x == ring.product(x, one) for x in part))

    def test_all_ideals_are_sums_of_parts(self):
        for prime in PRIMES:
            for ring in without_nil(prime):
                if ring.many > 700:
                    continue
                parts = full_parts(ring)
                made = {ideal_made(ring, (row,)) for row in rows_of(prime, ring.size)}
                sums = {space_of(prime, ring.size, tuple(row for part in some for row in part))
                        for count in range(len(parts) + 1) for some in itertools.combinations(parts, count)}
                self.assertEqual(made, sums)
                self.assertEqual(sorted(space for space in made if space and not any(
                    other and other != space and space_sum(prime, ring.size, space, other) == space for other in made)),
                    list(parts))

    def test_errors(self):
        for prime in PRIMES:
            nil = Ring.of_poly(prime, (0, 0, 1))
            ring = Ring.both(Ring.full(prime, 1), Ring.full(prime, 1))
            part, whole = ((1, 0),), units(2)
            for call in (part_one, part_paper, lambda one, space: is_part_paper(one, space, None),
                         lambda one, space: part_entries(one, space, None, (0, 0))):
                for space in ((), ((1, 0),), ((0, 1),), whole):
                    with self.assertRaises(Refused) as caught:
                        call(nil, space)
                    self.assertEqual(caught.exception.reason, ("radical",))
                for space in ((), whole, ((1, 1),), ((1, prime - 1),)):
                    with self.assertRaises(Refused) as caught:
                        call(ring, space)
                    self.assertEqual(caught.exception.reason, ("part",))
                for space in (((1, 0), (1, 1)), ((0, 0),), [(1, 0)], ((True, 0),), ((1,),), None, 1, "part", ((prime, 0),)):
                    self.assertRaises(InvalidSpace, call, ring, space)
                    self.assertRaises(InvalidSpace, call, nil, space)
            with self.assertRaises(Refused) as caught:
                full_parts(nil)
            self.assertEqual(caught.exception.reason, ("radical",))
            self.assertRaises(InvalidOperation, part_entries, ring, part, (((1, 0),),), (0, 0))
            self.assertRaises(InvalidOperation, part_entries, ring, part, part_paper(ring, ((0, 1),)), (0, 0))
            self.assertEqual(part_entries(ring, part, part_paper(ring, part), (0, 1)), (((0,),),))


class PaperTest(unittest.TestCase):
    def test_any_paper(self):
        """[7.2]"""
        for prime in PRIMES:
            for ring in without_nil(prime):
                for part in full_parts(ring):
                    paper = part_paper(ring, part)
                    self.assertIs(is_part_paper(ring, part, paper), True)
                    if prime ** len(part) < 70000:
                        self.assertTrue(is_paper(ring, part, paper))
                    self.check_other_papers(ring, part, paper)

    def check_other_papers(self, ring, part, paper):
        """Papers that are made of a right one, and what is right next to them."""
        table, maker = paper
        self.assertIs(is_part_paper(ring, part, (table, ring.power(maker, ring.prime))), True)
        unit = next((row for row in some_rows(ring.prime, ring.size, 30, 3) if ring.is_unit(row)), ring.one)
        back = ring.inverse(unit)
        led = tuple(tuple(product(ring, back, member, unit) for member in row) for row in table)
        self.assertIs(is_part_paper(ring, part, (led, maker)), True)
        mirrored = tuple(row[::-1] for row in table[::-1])
        self.assertIs(is_part_paper(ring, part, (mirrored, maker)), True)
        one = part_one(ring, part)
        degree = len(part) // len(table) ** 2
        for power in (one, (0,) * ring.size):
            self.assertIs(is_part_paper(ring, part, (table, power)), degree == 1)
        if len(table) > 1:
            turned_units = tuple(tuple(row[i] for row in table) for i in range(len(table)))
            self.assertIs(is_part_paper(ring, part, (turned_units, maker)), False)
            self.assertIs(is_part_paper(ring, part, (table, table[0][1])), False)
            self.assertIs(is_part_paper(ring, part, (table, table[0][0])), False)
            self.assertIs(is_part_paper(ring, part, (((one,),), maker)), False)
            self.assertIs(is_part_paper(ring, part, (table[:1], maker)), False)
            self.assertIs(is_part_paper(ring, part, (table[::-1], maker)), False)
        for value in (list(paper), (list(table), maker), (table, list(maker)), (table,), paper + (1,), (table, None),
                      (tuple(list(row) for row in table), maker), (maker, table), ((), maker), ((table[0],) * 2, maker),
                      (table, tuple(bool(number) for number in maker)), (((None,),), maker),
                      (tuple(tuple(tuple(map(bool, x)) for x in row) for row in table), maker), (((),), maker),
                      (table + table, maker), (tuple(row + row for row in table), maker), ((table[0] + (10 ** 99,),), maker)):
            self.assertIs(is_part_paper(ring, part, value), False)

    def test_all_papers_of_small_rings(self):
        rings = [Ring.full(2, 1), Ring.both(Ring.full(2, 1), Ring.full(2, 1)), Ring.of_poly(2, (1, 1, 1)), K9,
                 Ring.both(Ring.full(3, 1), Ring.full(3, 1)), Ring.full(5, 1), Ring.full(7, 1), Ring.of_poly(2, (1, 1, 0, 1))]
        for ring in rings + turned(rings, 90):
            members = rows_of(ring.prime, ring.size)
            for part in full_parts(ring):
                for unit, maker in itertools.product(members, repeat=2):
                    value = (((unit,),), maker)
                    self.assertIs(is_part_paper(ring, part, value), is_paper(ring, part, value))

    def test_all_units_of_small_tables(self):
        ring = F2
        least = [x for x in rows_of(2, 4) if ring.product(x, x) == x and x not in ((0,) * 4, ring.one)]
        seen = 0
        for e, f in itertools.product(least, repeat=2):
            for u, v in itertools.product(rows_of(2, 4), repeat=2):
                value = (((e, u), (v, f)), ring.one)
                right = is_paper(ring, units(4), value)
                seen += right
                self.assertIs(is_part_paper(ring, units(4), value), right)
        self.assertEqual(seen, 6)

    def test_what_is_judged(self):
        for ring in (F2, K9, Ring.full(7, 3), Ring.both(Ring.full(5, 1), Ring.full(5, 1))):
            part = full_parts(ring)[0]
            for value in junk() + [(junk(), junk())] + [(one, other) for one in junk()[:20] for other in junk()[:9]]:
                self.assertIs(is_part_paper(ring, part, value), False)
            self.assertIs(is_part_paper(ring, part, ((((10 ** 5000,) * ring.size,),), ring.one)), False)

    def test_a_paper_of_another_part(self):
        for prime in PRIMES:
            ring = Ring.both(Ring.full(prime, 2), Ring.full(prime, 2))
            low, high = full_parts(ring)
            self.assertIs(is_part_paper(ring, low, part_paper(ring, high)), False)
            self.assertIs(is_part_paper(ring, high, (part_paper(ring, high)[0], ring.one)), False)


class EntriesTest(unittest.TestCase):
    def test_entries(self):
        """[7.2], [7.4]"""
        for prime in PRIMES:
            for ring in without_nil(prime):
                some = some_rows(prime, ring.size, 2, 4) + [ring.one]
                for part in full_parts(ring):
                    paper = part_paper(ring, part)
                    told = [part_entries(ring, part, paper, x) for x in some]
                    for x, entries in zip(some, told):
                        self.check_form(ring, part, paper, x, entries)
                    for (x, one), (y, other) in itertools.product(zip(some, told), repeat=2):
                        self.assertEqual(part_entries(ring, part, paper, ring.added(x, y)), added(prime, one, other))
                        self.assertEqual(part_entries(ring, part, paper, ring.product(x, y)),
                                         multiplied(ring, part, paper, one, other))

    def check_form(self, ring, part, paper, member, entries):
        table, maker = paper
        count, one = len(table), part_one(ring, part)
        degree = len(part) // count ** 2
        self.assertEqual([len(entries)] + [len(row) for row in entries], [count] * (count + 1))
        self.assertEqual({len(entry) for row in entries for entry in row}, {degree})
        total = (0,) * ring.size
        for i, j, e in itertools.product(range(count), range(count), range(degree)):
            unit = ring.product(ring.power(maker, e), table[i][j])
            total = ring.added(total, ring.times(entries[i][j][e], unit))
        self.assertEqual(total, ring.product(one, member))

    def test_each_member_in_one_way(self):
        for ring in (F2, K9, Ring.both(Ring.full(2, 2), Ring.of_poly(2, (1, 1, 1)))):
            members = rows_of(ring.prime, ring.size)
            for part in full_parts(ring):
                paper = part_paper(ring, part)
                told = {part_entries(ring, part, paper, x) for x in members}
                self.assertEqual(len(told), ring.prime ** len(part))


def added(prime, one, other):
    """The sum of tables of rows."""
    return tuple(tuple(tuple((a + b) % prime for a, b in zip(x, y)) for x, y in zip(low, high))
                 for low, high in zip(one, other))


def multiplied(ring, part, paper, one, other):
    """The product of tables of rows, these being polynomials in the maker modulo its least polynomial."""
    prime, count, degree = ring.prime, len(one), len(one[0][0])
    start, maker = part_one(ring, part), paper[1]
    powers = [start]
    for _ in range(2 * degree):
        powers.append(ring.product(powers[-1], maker))
    low = [solution(prime, tuple(powers[:degree]), power) for power in powers]
    rows = []
    for i in range(count):
        row = []
        for j in range(count):
            numbers = [0] * degree
            for k in range(count):
                for a, b in itertools.product(range(degree), repeat=2):
                    numbers = [x + one[i][k][a] * other[k][j][b] * y for x, y in zip(numbers, low[a + b])]
            row.append(tuple(number % prime for number in numbers))
        rows.append(tuple(row))
    return tuple(rows)


class KindsTest(unittest.TestCase):
    def test_kinds(self):
        """[7.3]"""
        for prime in PRIMES:
            for ring in all_rings(prime) + great_rings(prime) + turned(great_rings(prime), prime):
                found, nil = kinds(ring), radical(ring)
                self.assertEqual(list(found), sorted(found))
                self.assertEqual(sum(m * m * d for m, d in found), ring.size - len(nil))
                self.assertEqual(sum(m for m, _ in found), len(parting(ring)))
                self.assertEqual(kinds(opposite(ring)), found)
                low = quotient_ring(ring, nil)
                parts = full_parts(low)
                papers = [part_paper(low, part)[0] for part in parts]
                told = [(len(table), len(part) // len(table) ** 2) for table, part in zip(papers, parts)]
                self.assertEqual(found, tuple(sorted(told)))

    def test_both(self):
        for prime in PRIMES:
            rings = [Ring.full(prime, 2), Ring.stairs(prime, 2), Ring.of_poly(prime, first_irreducible(prime, 3)),
                     Ring.full(prime, 1), low_ring(prime, 3)]
            for one, other in itertools.product(rings, repeat=2):
                self.assertEqual(kinds(Ring.both(one, other)), tuple(sorted(kinds(one) + kinds(other))))

    def test_known(self):
        for prime in PRIMES:
            for side in (1, 2, 3):
                self.assertEqual([kinds(Ring.full(prime, side)), kinds(Ring.stairs(prime, side))], [((side, 1),), ((1, 1),) * side])
            for degree in range(1, 7):
                self.assertEqual(kinds(Ring.of_poly(prime, first_irreducible(prime, degree))), ((1, degree),))
            self.assertEqual(kinds(full_over(prime, first_irreducible(prime, 2), 2)), ((2, 2),))
            self.assertEqual(kinds(full_over(prime, (0, 0, 1), 2)), ((2, 1),))
            self.assertEqual(kinds(low_ring(prime, 9)), ((1, 1),))
            self.assertEqual(kinds(Ring.of_poly(prime, (0, 1))), ((1, 1),))

    def test_rings_without_nil(self):
        for prime in PRIMES:
            for ring in without_nil(prime):
                parts = full_parts(ring)
                self.assertEqual(len(kinds(ring)), len(parts))
                self.assertEqual(sorted(m * m * d for m, d in kinds(ring)), sorted(len(part) for part in parts))


class NumbersTest(unittest.TestCase):
    def test_by_trial(self):
        """[7.5]"""
        for prime in PRIMES:
            for ring in low_rings(prime, 900) + without_nil(prime):
                if ring.many <= 900:
                    self.assertEqual(unit_number(ring), counted(ring, "units"))
                    self.assertEqual(nilpotent_number(ring), counted(ring, "nilpotent"))

    def test_classes_of_idempotents(self):
        for prime in PRIMES:
            for ring in low_rings(prime, 130) + ([S3, U3, C4] if prime == 2 else []):
                group = [(ring.inverse(g), g) for g in units_by_trial(ring)]
                left, count = {x for x in rows_of(ring.prime, ring.size) if ring.product(x, x) == x}, 0
                while left:
                    e = min(left)
                    left -= {product(ring, back, e, g) for back, g in group}
                    count += 1
                self.assertEqual(idempotent_kinds(ring), count)

    def test_formulas(self):
        for prime in PRIMES:
            for ring in all_rings(prime) + great_rings(prime):
                nil = prime ** len(radical(ring))
                one, other, third = nil, nil, 1
                for m, d in kinds(ring):
                    q = prime ** d
                    for i in range(m):
                        one *= q ** m - q ** i
                    other *= q ** (m * m - m)
                    third *= m + 1
                self.assertEqual([unit_number(ring), nilpotent_number(ring), idempotent_kinds(ring)], [one, other, third])
                self.assertLess(max(one, other, third), 10 ** 10)


class NotTrueTest(unittest.TestCase):
    """[7.6]"""

    def test_no_member_with_the_square_0(self):
        for prime in PRIMES:
            ring = Ring.full(prime, 2)
            self.assertEqual([radical(ring), ring.product((0, 1, 0, 0), (0, 1, 0, 0))], [(), (0,) * 4])

    def test_just_two_ideals_make_a_field(self):
        for prime in PRIMES:
            ring = Ring.full(prime, 2)
            self.assertEqual(full_parts(ring), (units(4),))
            self.assertFalse(ring.is_unit((1, 0, 0, 0)))

    def test_equal_kinds_make_rings_alike(self):
        group = Ring.of_moves(2, ((1, 0, 2, 3), (0, 1, 3, 2)))
        self.assertEqual([kinds(C4), C4.size], [kinds(group), group.size])
        squares = [{ring.product(x, x) for x in rows_of(2, 4)} for ring in (C4, group)]
        self.assertNotEqual(*[len(some) for some in squares])

    def test_the_rings_of_the_examples(self):
        self.assertEqual([kinds(ring) for ring in (N4, V4)], [((1, 1),), ((1, 1),)])


if __name__ == "__main__":
    unittest.main()
