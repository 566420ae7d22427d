"""Changes, and lifts of products [14.1] to [14.5]."""

import itertools
import random
import unittest

from tablerings.base.lines import kernel_rows
from tablerings.base.spaces import does_hold, led, space_meet, space_of
from tablerings.errors import InvalidTable, Refused, TooMany
from tablerings.rings import changes
from tablerings.rings.changes import (
    change_of, change_sizes, change_source, derivations, inner_derivations, is_closed, is_derivation, is_splitter,
    lift_ring, splitter,
)
from tablerings.rings.ideals import centre, is_ideal, quotient_ring
from tablerings.rings.radical import radical
from tablerings.rings.rings import Ring, is_subring, opposite, rebased
from tests.samples import (
    C4, F2, K9, N4, PRIMES, U3, all_rings, chance_table, great_rings, junk, low_ring, multiplied, rows_of, some_rows, sums_of,
)


def added(ring, *members):
    """The sum of some members, entry by entry."""
    return tuple(sum(numbers) % ring.prime for numbers in zip(*members))


def less(ring, one, other):
    """A member less another one, entry by entry."""
    return tuple((a - b) % ring.prime for a, b in zip(one, other))


def units(size):
    """The base members."""
    return tuple(tuple(1 if i == j else 0 for j in range(size)) for i in range(size))


def of_map(ring, table, member):
    """Where a map leads a member, entry by entry."""
    return tuple(sum(member[i] * table[i][k] for i in range(ring.size)) % ring.prime for k in range(ring.size))


def of_row(ring, row, one, other):
    """What a 2-row has at two members, entry by entry."""
    places = range(ring.size)
    return tuple(sum(one[i] * other[j] * row[i][j][k] for i in places for j in places) % ring.prime for k in places)


def table_told(size, row):
    """The table that is told row by row."""
    return tuple(tuple(row[at * size:(at + 1) * size]) for at in range(size))


def some_maps(ring, count, seed):
    """Some maps of a ring, by chance."""
    return [table_told(ring.size, row) for row in some_rows(ring.prime, ring.size ** 2, count, seed)]


def some_two_rows(ring, count, seed):
    """Some 2-rows of a ring, by chance."""
    size = ring.size
    return [tuple(table_told(size, row[at * size ** 2:(at + 1) * size ** 2]) for at in range(size))
            for row in some_rows(ring.prime, size ** 3, count, seed)]


def is_derivation_by_words(ring, table):
    """D(a b) = D(a) b + a D(b) for all base members, and so for all members."""
    for a, b in itertools.product(units(ring.size), repeat=2):
        right = added(ring, multiplied(ring, of_map(ring, table, a), b), multiplied(ring, a, of_map(ring, table, b)))
        if of_map(ring, table, multiplied(ring, a, b)) != right:
            return False
    return True


def beside(ring, one, other):
    """The table of a member beside another one."""
    return tuple(tuple(a * b % ring.prime for b in other) for a in one)


def table_sum(ring, tables):
    """The sum of some tables."""
    places = range(ring.size)
    return tuple(tuple(sum(table[i][j] for table in tables) % ring.prime for j in places) for i in places)


def is_splitter_by_words(ring, t):
    """Whether a table is a splitter, by the document's words."""
    places, e = range(ring.size), units(ring.size)
    pairs = list(itertools.product(places, repeat=2))
    times = {(i, j): tuple(t[i][j] * number % ring.prime for number in e[i]) for i, j in pairs}
    if added(ring, *[multiplied(ring, times[i, j], e[j]) for i, j in pairs]) != ring.one:
        return False
    for x in e:
        ahead = table_sum(ring, [beside(ring, multiplied(ring, x, times[i, j]), e[j]) for i, j in pairs])
        behind = table_sum(ring, [beside(ring, times[i, j], multiplied(ring, e[j], x)) for i, j in pairs])
        if ahead != behind:
            return False
    return True


def gap(ring, f, a, b, c):
    """a f(b, c) - f(a b, c) + f(a, b c) - f(a, b) c."""
    first = less(ring, multiplied(ring, a, of_row(ring, f, b, c)), of_row(ring, f, multiplied(ring, a, b), c))
    second = less(ring, of_row(ring, f, a, multiplied(ring, b, c)), multiplied(ring, of_row(ring, f, a, b), c))
    return added(ring, first, second)


def is_closed_by_words(ring, f):
    """Whether a 2-row is closed."""
    nothing = (0,) * ring.size
    return all(gap(ring, f, a, b, c) == nothing for a, b, c in itertools.product(units(ring.size), repeat=3))


def change_by_words(ring, h):
    """The change of a map."""
    def at(a, b):
        first = less(ring, multiplied(ring, a, of_map(ring, h, b)), of_map(ring, h, multiplied(ring, a, b)))
        return added(ring, first, multiplied(ring, of_map(ring, h, a), b))

    return tuple(tuple(at(a, b) for b in units(ring.size)) for a in units(ring.size))


def flat(row):
    """A 2-row as one row."""
    return tuple(number for rows in row for line in rows for number in line)


def small_rings(prime):
    """Rings of at most four base members, as they are made and told by other base members."""
    return [ring for ring in all_rings(prime) if ring.size <= 4] + [Ring.stairs(prime, 1)]


def is_any_subring(ring, space):
    """Whether a space has the one and all products of two of its members, by the document's words."""
    if not does_hold(ring.prime, ring.size, space, ring.one):
        return False
    return all(does_hold(ring.prime, ring.size, space, multiplied(ring, a, b)) for a in space for b in space)


class DerivationTest(unittest.TestCase):
    def test_constants(self):
        self.assertEqual(changes.MAX_CHANGED, 4)

    def test_spaces(self):
        """[14.1]"""
        for prime in PRIMES:
            for ring in all_rings(prime):
                every, inner = derivations(ring), inner_derivations(ring)
                width = ring.size ** 2
                self.assertEqual([space_of(prime, width, every), space_of(prime, width, inner)], [every, inner])
                self.assertLessEqual(len(every), 81)
                for row in every:
                    table = table_told(ring.size, row)
                    self.assertIs(is_derivation(ring, table), True)
                    self.assertTrue(is_derivation_by_words(ring, table))
                    self.assertEqual(led(prime, table, ring.one), (0,) * ring.size)
                for row in inner:
                    self.assertTrue(does_hold(prime, width, every, row))
                self.assertEqual(len(inner), ring.size - len(centre(ring)))
                made = {tuple(number for unit in units(ring.size) for number in less(
                    ring, multiplied(ring, c, unit), multiplied(ring, unit, c))) for c in units(ring.size)}
                self.assertEqual(space_of(prime, width, tuple(made)), inner)

    def test_all_maps_of_small_rings(self):
        seen = {True: 0, False: 0}
        for prime in PRIMES:
            for ring in all_rings(prime):
                if prime ** (ring.size ** 2) <= 700:
                    right = set()
                    for row in rows_of(prime, ring.size ** 2):
                        table = table_told(ring.size, row)
                        told = is_derivation_by_words(ring, table)
                        self.assertIs(is_derivation(ring, table), told)
                        seen[told] += 1
                        if told:
                            right.add(row)
                    self.assertEqual(sums_of(prime, ring.size ** 2, derivations(ring)), right)
        self.assertGreater(min(seen.values()), 50)

    def test_judge(self):
        for prime in PRIMES:
            for ring in all_rings(prime)[::3] + great_rings(prime)[::4]:
                nothing = ((0,) * ring.size,) * ring.size
                self.assertIs(is_derivation(ring, nothing), True)
                self.assertIs(is_derivation(ring, units(ring.size)), False)
                for value in junk() + [list(nothing), nothing[1:], nothing + nothing[:1], ((False,) + nothing[0][1:],) + nothing[1:],
                                       tuple(list(row) for row in nothing), ((prime,) + nothing[0][1:],) + nothing[1:], nothing[0],
                                       ((0,) * (ring.size + 1),) * ring.size, ((10 ** 99,) + nothing[0][1:],) + nothing[1:]]:
                    self.assertIs(is_derivation(ring, value), False)
                for table in some_maps(ring, 3, 1):
                    self.assertIs(is_derivation(ring, table), is_derivation_by_words(ring, table))
                chance = random.Random(prime)
                for row in derivations(ring)[:3]:
                    other = list(row)
                    other[chance.randrange(len(other))] += 1
                    table = table_told(ring.size, tuple(number % prime for number in other))
                    self.assertIs(is_derivation(ring, table), is_derivation_by_words(ring, table))

    def test_known(self):
        for prime in PRIMES:
            self.assertEqual([len(derivations(Ring.full(prime, side))) for side in (1, 2, 3)], [0, 3, 8])
            for size in range(1, 7):
                # x may go anywhere into the multiples of x, and further if the prime divides the size.
                line = Ring.of_poly(prime, (0,) * size + (1,))
                self.assertEqual(len(derivations(line)), size if size % prime == 0 else size - 1)
                self.assertEqual(inner_derivations(line), ())
            for size in (2, 3, 4):
                self.assertEqual(len(derivations(low_ring(prime, size))), (size - 1) ** 2 + (prime == 2 and size == 2))

    def test_other_bases(self):
        """Told by another base and back, a derivation is the same map."""
        for prime in PRIMES:
            for ring in all_rings(prime)[::4]:
                table = chance_table(prime, ring.size, random.Random(5))
                self.assertEqual([len(derivations(rebased(ring, table))), len(derivations(opposite(ring)))], [len(derivations(ring))] * 2)


class SplitterTest(unittest.TestCase):
    def test_splitters(self):
        """[14.2]: there is one exactly if J is 0, and then each derivation is inner, and each closed 2-row a change."""
        seen = {True: 0, False: 0}
        for prime in PRIMES:
            for ring in all_rings(prime) + great_rings(prime)[:4]:
                found, bare = splitter(ring), radical(ring) == ()
                self.assertEqual(found is not None, bare)
                self.assertIs(is_splitter(ring, found), bare)
                seen[bare] += 1
                if bare:
                    self.assertTrue(is_splitter_by_words(ring, found))
                    self.assertEqual(derivations(ring), inner_derivations(ring))
                if bare and ring.size <= 4:
                    self.assertEqual(len(set(change_sizes(ring))), 1)
        self.assertGreater(min(seen.values()), 20)

    def test_all_tables_of_small_rings(self):
        for prime in PRIMES:
            for ring in all_rings(prime):
                if prime ** (ring.size ** 2) <= 700:
                    right = 0
                    for row in rows_of(prime, ring.size ** 2):
                        table = table_told(ring.size, row)
                        told = is_splitter_by_words(ring, table)
                        self.assertIs(is_splitter(ring, table), told)
                        right += told
                    self.assertEqual(right > 0, radical(ring) == ())

    def test_other_splitters(self):
        """Splitters that others made are let, and what is next to them is judged by the words."""
        for prime in PRIMES:
            for side in (1, 2, 3):
                ring = Ring.full(prime, side)
                # The sum of all E(i, 0) beside E(0, i) is a splitter, and so with another column in the place of 0.
                for column in range(side):
                    rows = [[0] * ring.size for _ in range(ring.size)]
                    for at in range(side):
                        rows[at * side + column][column * side + at] = 1
                    right = tuple(tuple(row) for row in rows)
                    self.assertIs(is_splitter(ring, right), True)
                    rows[0][0] = (rows[0][0] + 1) % prime
                    wrong = tuple(tuple(row) for row in rows)
                    self.assertIs(is_splitter(ring, wrong), is_splitter_by_words(ring, wrong))
                    for value in junk() + [list(right), right[1:], right + right[:1], None, rows, (right,), right[0]]:
                        if value != right:
                            self.assertIs(is_splitter(ring, value), False)
            for ring in (Ring.full(prime, 2), Ring.both(Ring.full(prime, 1), Ring.full(prime, 1))):
                found = splitter(ring)
                if found[0][0] == 1:
                    self.assertIs(is_splitter(ring, ((True,) + found[0][1:],) + found[1:]), False)


class ChangeTest(unittest.TestCase):
    def test_changes(self):
        """[14.3]"""
        for prime in PRIMES:
            for ring in all_rings(prime) + great_rings(prime)[::5]:
                count = 4 if ring.size <= 4 else 1
                for table in some_maps(ring, count, 3) + [units(ring.size)]:
                    found = change_of(ring, table)
                    self.assertEqual(found, change_by_words(ring, table))
                    self.assertIs(is_closed(ring, found), True)
                    empty = all(number == 0 for number in flat(found))
                    self.assertEqual(empty, is_derivation(ring, table))
                for row in derivations(ring)[:3]:
                    self.assertEqual(set(flat(change_of(ring, table_told(ring.size, row)))), {0})

    def test_closed(self):
        seen = {True: 0, False: 0}
        for prime in PRIMES:
            for ring in all_rings(prime):
                if prime ** (ring.size ** 3) <= 300:
                    for row in rows_of(prime, ring.size ** 3):
                        f = tuple(table_told(ring.size, row[at:at + ring.size ** 2]) for at in range(0, len(row), ring.size ** 2))
                        told = is_closed_by_words(ring, f)
                        self.assertIs(is_closed(ring, f), told)
                        seen[told] += 1
                for f in some_two_rows(ring, 2 if ring.size <= 4 else 1, 8):
                    self.assertIs(is_closed(ring, f), is_closed_by_words(ring, f))
        self.assertGreater(min(seen.values()), 100)

    def test_closed_is_a_judge(self):
        for prime in PRIMES:
            for ring in all_rings(prime)[::3] + great_rings(prime)[::3]:
                nothing = (((0,) * ring.size,) * ring.size,) * ring.size
                self.assertIs(is_closed(ring, nothing), True)
                wrong = [list(nothing), nothing[1:], nothing + nothing[:1], nothing[0], (nothing,), (list(nothing[0]),) + nothing[1:],
                         (((False,) + nothing[0][0][1:],) + nothing[0][1:],) + nothing[1:], None, (nothing[0][1:],) + nothing[1:],
                         (((prime,) + nothing[0][0][1:],) + nothing[0][1:],) + nothing[1:],
                         (((-10 ** 99,) + nothing[0][0][1:],) + nothing[0][1:],) + nothing[1:]]
                for value in junk() + wrong:
                    self.assertIs(is_closed(ring, value), False)

    def test_next_to_a_closed_one(self):
        for prime in PRIMES:
            for ring in small_rings(prime):
                chance = random.Random(ring.size)
                for table in some_maps(ring, 2, 4):
                    rows = [[list(row) for row in rows] for rows in change_of(ring, table)]
                    i, j, k = (chance.randrange(ring.size) for _ in range(3))
                    rows[i][j][k] = (rows[i][j][k] + 1) % prime
                    f = tuple(tuple(tuple(row) for row in rows) for rows in rows)
                    self.assertIs(is_closed(ring, f), is_closed_by_words(ring, f))

    def closed_rows(self, ring):
        """The space of all closed 2-rows, by the equations at each pair of base members and place."""
        size = ring.size
        told = []
        for i, j, k in itertools.product(range(size), repeat=3):
            f = [[[0] * size for _ in range(size)] for _ in range(size)]
            f[i][j][k] = 1
            told.append(tuple(number for a, b, c in itertools.product(units(size), repeat=3) for number in gap(ring, f, a, b, c)))
        return kernel_rows(ring.prime, told)

    def test_sizes(self):
        for prime in PRIMES:
            for ring in small_rings(prime):
                closed, changed = change_sizes(ring)
                self.assertEqual(changed, ring.size ** 2 - len(derivations(ring)))
                self.assertLessEqual(changed, closed)
                if ring.size <= 3:
                    rows = self.closed_rows(ring)
                    self.assertEqual(len(rows), closed)
                    made = tuple(flat(change_of(ring, table_told(ring.size, row))) for row in units(ring.size ** 2))
                    self.assertEqual(len(space_of(prime, ring.size ** 3, made)), changed)

    def test_sources(self):
        """A closed 2-row is a change exactly if it is a sum of changes of maps that lead one base member."""
        seen = {True: 0, False: 0}
        for prime in PRIMES:
            for ring in small_rings(prime):
                for table in some_maps(ring, 3, 6):
                    row = change_of(ring, table)
                    self.assertEqual(change_by_words(ring, change_source(ring, row)), row)
                if ring.size <= 3:
                    made = space_of(prime, ring.size ** 3, tuple(
                        flat(change_of(ring, table_told(ring.size, row))) for row in units(ring.size ** 2)))
                    for row in self.closed_rows(ring):
                        f = tuple(table_told(ring.size, row[at:at + ring.size ** 2]) for at in range(0, len(row), ring.size ** 2))
                        found, right = change_source(ring, f), does_hold(prime, ring.size ** 3, made, row)
                        self.assertEqual(found is not None, right)
                        seen[right] += 1
                        if right:
                            self.assertEqual(change_by_words(ring, found), f)
        self.assertGreater(min(seen.values()), 40)

    def test_refused(self):
        for prime in PRIMES:
            ring, great = Ring.full(prime, 2), Ring.of_poly(prime, (0,) * 5 + (1,))
            open_row = (((1,) + (0,) * 3,) * 4,) * 4
            self.assertIs(is_closed(ring, open_row), False)
            nothing = (((0,) * 5,) * 5,) * 5
            for call in (change_source, lift_ring):
                with self.assertRaises(Refused) as caught:
                    call(ring, open_row)
                self.assertEqual(caught.exception.reason, ("open",))
                for row in (nothing, (((1,) + (0,) * 4,) * 5,) * 5):
                    with self.assertRaises(TooMany) as caught:
                        call(great, row)
                    self.assertEqual(caught.exception.most, 4)
                self.assertRaises(InvalidTable, call, great, open_row)
                self.assertRaises(InvalidTable, call, ring, nothing)
            with self.assertRaises(TooMany) as caught:
                change_sizes(great)
            self.assertEqual(caught.exception.most, 4)
            self.assertEqual(len(change_sizes(ring)), 2)
            self.assertIs(is_closed(great, nothing), True)
            self.assertEqual(change_of(great, ((0,) * 5,) * 5), nothing)


class LiftTest(unittest.TestCase):
    def lifted_product(self, ring, f, one, other):
        """(a, x) (b, y) is (a b, a y + x b + f(a, b))."""
        (a, x), (b, y) = [(member[:ring.size], member[ring.size:]) for member in (one, other)]
        return multiplied(ring, a, b) + added(ring, multiplied(ring, a, y), multiplied(ring, x, b), of_row(ring, f, a, b))

    def closed_samples(self, ring):
        """Closed 2-rows: changes, sums of them and of a closed one, and 0."""
        nothing = (((0,) * ring.size,) * ring.size,) * ring.size
        return [nothing] + [change_of(ring, table) for table in some_maps(ring, 2, 11)]

    def check_lift(self, ring, f):
        found, size, prime = lift_ring(ring, f), ring.size, ring.prime
        self.assertEqual(found.size, 2 * size)
        again = Ring(prime, found.table)
        self.assertEqual([again, again.one], [found, found.one])
        bent = of_row(ring, f, ring.one, ring.one)
        self.assertEqual(found.one, ring.one + tuple(-number % prime for number in bent))
        for one, other in zip(some_rows(prime, 2 * size, 6, 1), some_rows(prime, 2 * size, 6, 2)):
            self.assertEqual(found.product(one, other), self.lifted_product(ring, f, one, other))
        ideal = tuple((0,) * size + unit for unit in units(size))
        self.assertTrue(is_ideal(found, ideal))
        self.assertEqual({found.product(a, b) for a in ideal for b in ideal}, {(0,) * (2 * size)})
        self.assertEqual(quotient_ring(found, space_of(prime, 2 * size, ideal)), ring)
        return found, ideal

    def test_lifts(self):
        """[14.4]"""
        for prime in PRIMES:
            for ring in small_rings(prime):
                for f in self.closed_samples(ring):
                    found, ideal = self.check_lift(ring, f)
                    # A map h whose change is f tells a subring: of the pairs of a member a and - h(a).
                    h = change_source(ring, f)
                    space = space_of(prime, 2 * ring.size, tuple(
                        unit + tuple(-number % prime for number in row) for unit, row in zip(units(ring.size), h)))
                    self.assertTrue(is_any_subring(found, space) and is_subring(found, space))
                    self.assertEqual([len(space), space_meet(prime, found.size, space, ideal)], [ring.size, ()])

    def subring_beside(self, found, size):
        """Whether some subring meets the ideal in 0 and adds up with it to all, by trying all such spaces."""
        for row in rows_of(found.prime, size ** 2):
            space = tuple(unit + line for unit, line in zip(units(size), table_told(size, row)))
            if is_any_subring(found, space):
                return True
        return False

    def test_subrings_by_trial(self):
        """Closed 2-rows, changes and subrings of the lift tell the same."""
        seen = {True: 0, False: 0}
        for prime in PRIMES:
            bent = (((0, 0), (0, 0)), ((0, 0), (1, 0)))
            steep = (((0, 0), (0, 0)), ((0, 0), (0, 1)))
            for ring in (Ring.of_poly(prime, (0, 0, 1)), Ring.of_poly(prime, (0, prime - 1, 1)), Ring.both(Ring.full(prime, 1), Ring.full(prime, 1))):
                rows = [f for f in (bent, steep) if is_closed(ring, f)] + self.closed_samples(ring)[:2]
                for f in rows[:4 if prime < 7 else 2]:
                    found, _ = self.check_lift(ring, f)
                    right = change_source(ring, f) is not None
                    self.assertEqual(self.subring_beside(found, 2), right)
                    seen[right] += 1
        self.assertGreater(min(seen.values()), 3)

    def test_of_size_one(self):
        for prime in PRIMES:
            ring = Ring.full(prime, 1)
            self.assertEqual([derivations(ring), inner_derivations(ring), splitter(ring)], [(), (), ((1,),)])
            self.assertEqual(change_sizes(ring), (1, 1))
            for number in range(prime):
                f = (((number,),),)
                self.assertEqual(change_source(ring, f), ((number,),))
                found, _ = self.check_lift(ring, f)
                self.assertEqual(found.one, (1, -number % prime))


class NotTrueTest(unittest.TestCase):
    """[14.5]"""

    def test_inner_only_without_nil(self):
        for prime in PRIMES:
            ring = Ring.stairs(prime, 3)
            self.assertEqual(derivations(ring), inner_derivations(ring))
            self.assertNotEqual(radical(ring), ())

    def test_closed_rows_are_changes(self):
        for prime in PRIMES:
            ring = Ring.of_poly(prime, (0, 0, 1))
            bent = (((0, 0), (0, 0)), ((0, 0), (1, 0)))
            self.assertEqual([is_closed(ring, bent), change_source(ring, bent)], [True, None])

    def test_maps_that_are_nothing_at_the_one(self):
        for prime in PRIMES:
            ring = Ring.of_poly(prime, (0, 0, 0, 1))
            table = ((0, 0, 0), (1, 0, 0), (0, 0, 0))
            self.assertEqual([led(prime, table, ring.one), is_derivation(ring, table)], [(0, 0, 0), False])

    def test_a_derivation_and_its_square(self):
        for prime in (3, 5, 7):
            ring = Ring.of_poly(prime, (0, 0, 0, 1))
            table = ((0, 0, 0), (0, 1, 0), (0, 0, 2))
            square = tuple(led(prime, table, row) for row in table)
            both = tuple(added(ring, *rows) for rows in zip(table, square))
            self.assertEqual([is_derivation(ring, table), is_derivation(ring, both)], [True, False])

    def test_the_examples(self):
        self.assertEqual([len(derivations(ring)) for ring in (F2, U3, N4, K9, C4)], [3, 5, 3, 0, 4])


if __name__ == "__main__":
    unittest.main()
