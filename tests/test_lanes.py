"""Rows as whole numbers: what all rows, spaces and products rest on [0.8], [0.9]."""

import random
import unittest

from tablerings.base.lanes import LANE, MOST_TERMS, Echelon, Lanes, joined, packed, summed, unpacked
from tests.samples import PRIMES, chance_table, rows_of, sums_of


def lanes_of(numbers):
    """The number with these in its lanes, the first one on top."""
    return sum(number << at * LANE for at, number in enumerate(reversed(numbers)))


def lead(row):
    """The first place where a row is not 0."""
    return [at for at, number in enumerate(row) if number][0]


class LanesTest(unittest.TestCase):
    def test_a_row_is_told_by_its_number(self):
        self.assertEqual([packed(()), packed((0, 0)), packed((2, 0, 1))], [0, 0, (2 << 2 * LANE) + 1])
        self.assertEqual([unpacked(0, 0), unpacked(2, 0), unpacked(3, 5)], [(), (0, 0), (0, 0, 5)])
        for prime in PRIMES:
            for row in rows_of(prime, 3):
                self.assertEqual(packed(row), lanes_of(row))
                self.assertEqual(unpacked(3, packed(row)), row)

    def test_rows_one_behind_the_other(self):
        self.assertEqual(joined(2, [packed((1, 2)), packed((0, 3)), packed((4, 0))]), packed((1, 2, 0, 3, 4, 0)))
        self.assertEqual(joined(3, []), 0)

    def test_each_sum_that_a_lane_has_room_for_is_settled(self):
        for prime in PRIMES:
            most = MOST_TERMS * (prime - 1) * (prime - 1) + prime - 1
            for low in range(0, most + 1, 40):
                numbers = [min(low + more, most) for more in range(40)]
                made = Lanes(prime, 40).settled(lanes_of(numbers))
                self.assertEqual(unpacked(40, made), tuple(number % prime for number in numbers))

    def test_the_greatest_sums_of_rows(self):
        for prime in PRIMES:
            lines = [packed((prime - 1,) * 150)] * MOST_TERMS
            row = (prime - 1,) * MOST_TERMS
            number = summed(row, lines) + lines[0]
            expected = (MOST_TERMS * (prime - 1) ** 2 + prime - 1) % prime
            self.assertEqual(unpacked(150, Lanes(prime, 150).settled(number)), (expected,) * 150)

    def test_tables_lead_rows(self):
        self.assertEqual(Lanes(5, 2).led([packed(row) for row in ((1, 2), (3, 4), (0, 1))], (1, 1, 2)), packed((4, 3)))
        self.assertEqual(Lanes(5, 2).led([], ()), 0)


class EchelonTest(unittest.TestCase):
    def test_rows_are_taken_if_those_that_are_there_do_not_add_up_to_them(self):
        for prime in PRIMES:
            for seed in range(20):
                chance = random.Random(seed)
                found, there = Echelon(prime, 3), {(0, 0, 0)}
                for row in chance_table(prime, 5, chance):
                    row = row[:3]
                    self.assertEqual(found.take(packed(row)), row not in there)
                    there = {tuple((a + number * b) % prime for a, b in zip(low, row))
                             for low in there for number in range(prime)}
                    for some in rows_of(prime, 3):
                        self.assertEqual(found.rest(packed(some)) == 0, some in there)

    def test_the_base_is_reduced(self):
        for prime in PRIMES:
            for seed in range(20):
                rows = [row[:3] for row in chance_table(prime, 4, random.Random(seed))][:1 + seed % 3]
                found = Echelon(prime, 3)
                found.take_all([packed(row) for row in rows])
                base = found.base(3)
                leads = [lead(row) for row in base]
                self.assertEqual(leads, sorted(set(leads)))
                self.assertEqual([[row[at] for at in leads] for row in base],
                                 [[int(one == other) for other in leads] for one in leads])
                self.assertEqual(sums_of(prime, 3, base), sums_of(prime, 3, rows))

    def test_the_base_of_the_last_lanes_alone(self):
        found = Echelon(3, 4)
        found.take_all([packed(row) for row in ((1, 0, 2, 1), (0, 0, 2, 2), (0, 0, 0, 1))])
        self.assertEqual(found.base(2), ((1, 0), (0, 1)))
        self.assertEqual(found.base(4), ((1, 0, 0, 0), (0, 0, 1, 0), (0, 0, 0, 1)))

    def test_many_rows_are_cleared_at_once(self):
        # More rows than a lane has room for terms: the sum is settled on the way.
        width = MOST_TERMS + 60
        found = Echelon(7, width)
        rows = [tuple(1 if at == place else 6 if at == width - 1 else 0 for at in range(width))
                for place in range(width - 1)]
        found.take_all([packed(row) for row in rows])
        row = found.cleared(found.reduced(width), packed((1,) * (width - 1) + (0,)))
        self.assertEqual(unpacked(width, row), (0,) * (width - 1) + (-6 * (width - 1) % 7,))


if __name__ == "__main__":
    unittest.main()
