"""Rows, tables and spaces [1.1] to [1.5]."""

import itertools
import random
import unittest

from tablerings.base import spaces
from tablerings.base.spaces import (
    bar, does_hold, followed, image, is_bar, is_solution, is_space, is_table, kernel, led, solution, space_meet,
    space_of, space_sum, undone_table,
)
from tests.samples import PRIMES, chance_table, rows_of, some_rows, sums_of


def chance_rows(prime, width, seed):
    """Some rows of a width, few enough to leave room."""
    return tuple(some_rows(prime, width, random.Random(seed).randrange(width + 2), seed))


def unit_table(count):
    """The table that leads each row to itself."""
    return tuple(tuple(1 if i == j else 0 for j in range(count)) for i in range(count))


def led_by_sums(prime, table, row):
    """The row to which a table leads a row, as the document tells it."""
    return tuple(sum(row[i] * table[i][k] for i in range(len(table))) % prime for k in range(len(table[0])))


def product(prime, one, other):
    """The product of two rows."""
    return sum(a * b for a, b in zip(one, other)) % prime


class SpaceTest(unittest.TestCase):
    def test_constants(self):
        self.assertEqual([spaces.MAX_WIDTH, spaces.MAX_ROWS], [150, 200])

    def test_the_base_is_reduced_and_has_the_same_sums(self):
        for prime in PRIMES:
            for seed in range(30):
                width = 1 + seed % 4
                rows = chance_rows(prime, width, seed)
                base = space_of(prime, width, rows)
                self.assertIs(type(base), tuple)
                self.assertTrue(is_space(prime, width, base))
                self.assertEqual(sums_of(prime, width, base), sums_of(prime, width, rows))
                self.assertEqual(len(sums_of(prime, width, rows)), prime ** len(base))

    def test_equal_spaces_have_one_base(self):
        for prime in PRIMES:
            for seed in range(20):
                rows = chance_rows(prime, 4, seed)
                chance = random.Random(seed)
                table = chance_table(prime, len(rows), chance) if rows else ()
                mixed = tuple(led_by_sums(prime, rows, row) for row in table) + rows[:1]
                self.assertEqual(space_of(prime, 4, rows), space_of(prime, 4, mixed))
                self.assertEqual(space_of(prime, 4, space_of(prime, 4, rows)), space_of(prime, 4, rows))

    def test_just_the_reduced_bases_are_spaces(self):
        for prime, width in ((2, 3), (3, 2), (5, 2), (7, 2)):
            rows = rows_of(prime, width)
            for count in range(width + 2):
                for value in itertools.product(rows, repeat=count) if len(rows) ** count < 5000 else []:
                    self.assertEqual(is_space(prime, width, value), value == space_of(prime, width, value))

    def test_each_row_is_one_of_the_space_and_one_that_is_0_at_all_leads(self):
        for prime in PRIMES:
            base = space_of(prime, 3, ((1, 1, 1), (1, 1, 0)))
            for row in rows_of(prime, 3):
                rest = (0, (row[1] - row[0]) % prime, 0)
                within = tuple((a - b) % prime for a, b in zip(row, rest))
                self.assertTrue(does_hold(prime, 3, base, within))
                self.assertEqual(does_hold(prime, 3, base, row), rest == (0, 0, 0))

    def test_sum_meet_and_what_is_held(self):
        for prime in PRIMES:
            for seed in range(25):
                one = space_of(prime, 4, chance_rows(prime, 4, seed))
                other = space_of(prime, 4, chance_rows(prime, 4, seed + 100))
                low, high = sums_of(prime, 4, one), sums_of(prime, 4, other)
                both, meet = space_sum(prime, 4, one, other), space_meet(prime, 4, one, other)
                self.assertTrue(is_space(prime, 4, both) and is_space(prime, 4, meet))
                self.assertEqual(sums_of(prime, 4, meet), low & high)
                self.assertEqual(sums_of(prime, 4, both), sums_of(prime, 4, one + other))
                self.assertEqual(len(both) + len(meet), len(one) + len(other))
                for row in some_rows(prime, 4, 10, seed) + list(low)[:5]:
                    self.assertEqual(does_hold(prime, 4, one, row), row in low)

    def test_edges(self):
        for prime in PRIMES:
            whole = unit_table(150)
            self.assertEqual(space_of(prime, 1, ()), ())
            self.assertEqual(space_of(prime, 1, ((prime - 1,),)), ((1,),))
            self.assertEqual(space_of(prime, 150, ()), ())
            self.assertEqual(space_of(prime, 2, ((0, 0),) * 200), ())
            self.assertEqual(space_of(prime, 150, whole[::-1] + ((1,) * 150,) * 50), whole)
            self.assertTrue(is_space(prime, 150, whole) and is_space(prime, 1, ((1,),)) and is_space(prime, 1, ()))
            self.assertEqual([space_sum(prime, 150, (), whole), space_meet(prime, 150, (), whole)], [whole, ()])
            self.assertEqual([space_sum(prime, 1, ((1,),), ((1,),)), space_meet(prime, 1, ((1,),), ((1,),))], [((1,),)] * 2)
            self.assertTrue(does_hold(prime, 150, whole, (prime - 1,) * 150))
            self.assertTrue(does_hold(prime, 2, (), (0, 0)))
            self.assertFalse(does_hold(prime, 2, (), (0, 1)))
            half = space_of(prime, 150, tuple(some_rows(prime, 150, 100, prime)))
            last = space_of(prime, 150, tuple(some_rows(prime, 150, 90, prime + 1)))
            meet = space_meet(prime, 150, half, last)
            self.assertEqual(len(space_sum(prime, 150, half, last)) + len(meet), len(half) + len(last))
            self.assertTrue(all(does_hold(prime, 150, half, row) and does_hold(prime, 150, last, row) for row in meet))


class TableTest(unittest.TestCase):
    def test_led_and_followed(self):
        for prime in PRIMES:
            for seed in range(20):
                one = tuple(some_rows(prime, 3, 2, seed))
                other = tuple(some_rows(prime, 1 + seed % 4, 3, seed + 50))
                both = followed(prime, one, other)
                for row in rows_of(prime, 2)[:20]:
                    self.assertEqual(led(prime, one, row), led_by_sums(prime, one, row))
                    self.assertEqual(led(prime, both, row), led(prime, other, led(prime, one, row)))

    def test_what_is_a_table(self):
        for prime in PRIMES:
            for value in (((0,),), ((1, 0),), ((0,) * 150,), ((0,),) * 200, ((prime - 1,) * 150,) * 200):
                self.assertIs(is_table(prime, value), True)
            for value in ((), ((),), ((0,),) * 201, ((0,) * 151,), ((0, 1), (0,)), ((prime,),)):
                self.assertIs(is_table(prime, value), False)

    def test_kernel_and_image(self):
        for prime in PRIMES:
            for seed in range(25):
                table = tuple(some_rows(prime, 1 + seed % 4, 1 + seed % 3, seed))
                low, high = kernel(prime, table), image(prime, table)
                rows = rows_of(prime, len(table))
                nothing = (0,) * len(table[0])
                self.assertTrue(is_space(prime, len(table), low) and is_space(prime, len(table[0]), high))
                self.assertEqual(sums_of(prime, len(table), low), {row for row in rows if led(prime, table, row) == nothing})
                self.assertEqual(sums_of(prime, len(table[0]), high), {led(prime, table, row) for row in rows})
                self.assertEqual(len(low) + len(high), len(table))

    def test_undone_tables(self):
        for prime in PRIMES:
            for count in (1, 2, 3, 5, 30):
                table = chance_table(prime, count, random.Random(count))
                undone = undone_table(prime, table)
                self.assertEqual(followed(prime, table, undone), unit_table(count))
                self.assertEqual(followed(prime, undone, table), unit_table(count))
                self.assertEqual(kernel(prime, table), ())
                self.assertEqual(undone_table(prime, undone), table)

    def test_a_solution_or_a_bar(self):
        for prime in PRIMES:
            for seed in range(30):
                table = tuple(some_rows(prime, 3, 1 + seed % 4, seed))
                for row in some_rows(prime, 3, 4, seed + 1) + [(0, 0, 0), table[0]]:
                    found, barred = solution(prime, table, row), bar(prime, table, row)
                    self.assertEqual(found is None, barred is not None)
                    self.assertIs(is_solution(prime, table, row, found), found is not None)
                    self.assertIs(is_bar(prime, table, row, barred), barred is not None)
                    self.judge_all(prime, table, row)

    def judge_all(self, prime, table, row):
        """Each row of the right width is judged by what the document says of it."""
        for value in rows_of(prime, len(table))[:60]:
            self.assertIs(is_solution(prime, table, row, value), led_by_sums(prime, table, value) == row)
        for value in rows_of(prime, 3)[:60]:
            right = not any(product(prime, value, line) for line in table) and product(prime, value, row) != 0
            self.assertIs(is_bar(prime, table, row, value), right)

    def test_great_tables(self):
        for prime in PRIMES:
            table = tuple(some_rows(prime, 150, 200, prime))
            row = led(prime, table, (1,) * 200)
            self.assertTrue(is_solution(prime, table, row, solution(prime, table, row)))
            self.assertEqual(len(solution(prime, table, row)), 200)
            self.assertIsNone(bar(prime, table, row))
            flat = tuple(line[:149] + (0,) for line in table)
            last = (0,) * 149 + (1,)
            self.assertIsNone(solution(prime, flat, last))
            self.assertTrue(is_bar(prime, flat, last, bar(prime, flat, last)))
            self.assertEqual(len(kernel(prime, flat[:150])) + len(image(prime, flat[:150])), 150)
            self.assertLessEqual(len(image(prime, flat)), 149)
            self.assertEqual(followed(prime, table, unit_table(150)), table)

    def test_a_wide_table_is_undone(self):
        for prime in PRIMES:
            rows = unit_table(150)
            table = tuple(tuple((a + b) % prime for a, b in zip(row, rows[at - 1])) if at else row for at, row in enumerate(rows))
            undone = undone_table(prime, table)
            self.assertEqual(followed(prime, undone, table), rows)

    def test_the_least_table(self):
        for prime in PRIMES:
            for number in range(1, prime):
                undone = undone_table(prime, ((number,),))
                self.assertEqual(undone[0][0] * number % prime, 1)
            self.assertEqual([kernel(prime, ((0,),)), image(prime, ((0,),)), kernel(prime, ((1,),))], [((1,),), (), ()])
            self.assertEqual([solution(prime, ((0,),), (0,)) is None, bar(prime, ((0,),), (1,)) is None], [False, False])
            self.assertEqual(len(kernel(prime, ((0,),) * 150)), 150)


class NotTrueTest(unittest.TestCase):
    """[1.5]"""

    def test_three_spaces(self):
        for prime in PRIMES:
            three = (((1, 0),), ((0, 1),), ((1, 1),))
            for one, other in itertools.combinations(three, 2):
                self.assertEqual(space_meet(prime, 2, one, other), ())
            self.assertEqual(len(space_sum(prime, 2, space_sum(prime, 2, three[0], three[1]), three[2])), 2)

    def test_tables_that_are_not_square(self):
        for prime in PRIMES:
            self.assertEqual(followed(prime, ((1, 0),), ((1,), (0,))), ((1,),))

    def test_equal_leads(self):
        for prime in PRIMES:
            self.assertNotEqual(space_of(prime, 2, ((1, 0),)), space_of(prime, 2, ((1, 1),)))


if __name__ == "__main__":
    unittest.main()
