"""Wrong arguments of the functions of full parts and of split subrings."""

import unittest

from tablerings.errors import InvalidOperation, InvalidRing, InvalidRow, InvalidSpace, Refused
from tablerings.rings.full import (
    full_parts, idempotent_kinds, is_part_paper, kinds, nilpotent_number, part_entries, part_one, part_paper, unit_number,
)
from tablerings.rings.rings import Ring
from tablerings.rings.split import is_leading_nil, is_split_subring, leading_nil, split_number, split_subring
from tablerings.rooms.rooms import Room
from tests.samples import F2, PRIMES, junk
from tests.test_wrong_rings import wrong_rings
from tests.wrong import Case, Parameter, run_case, wrong_rows, wrong_spaces


def ring_parameter(ring):
    """A ring, and what is none."""
    return Parameter("ring", ring, InvalidRing, wrong_rings() + [Room.own(F2), Room.nothing(F2), Room])


def value_parameter(value):
    """A value that is judged: none is wrong."""
    return Parameter("value", value, None, [])


def paper_parameter(value):
    """A paper: it is judged behind all other errors."""
    return Parameter("paper", value, None, [])


def part_cases(prime):
    ring, nil = Ring.both(Ring.full(prime, 1), Ring.full(prime, 1)), Ring.of_poly(prime, (0, 0, 1))
    part, whole = ((1, 0),), ((1, 0), (0, 1))
    paper = part_paper(ring, part)
    first, space = ring_parameter(ring), Parameter("space", part, InvalidSpace, wrong_spaces(prime, 2))
    member = Parameter("member", (1, 1), InvalidRow, wrong_rows(prime, 2))
    spaces = [((nil, part), "radical"), ((nil, whole), "radical"), ((nil, ()), "radical"), ((nil, ((0, 1),)), "radical"),
              ((ring, ()), "part"), ((ring, whole), "part"), ((ring, ((1, 1),)), "part")]
    refused = [(values, Refused, "reason", (word,)) for values, word in spaces]
    judged = [(values + (paper,), Refused, "reason", (word,)) for values, word in spaces]
    entries = [(values + (some, (1, 1)), Refused, "reason", (word,)) for values, word in spaces for some in (paper, None)]
    wrong = junk() + [list(paper), paper[:1], (paper[0], (1, 1)), part_paper(ring, ((0, 1),)), (paper[1], paper[0])]
    entries += [((ring, part, some, (1, 1)), InvalidOperation, None, None) for some in wrong]
    return [
        Case("full_parts", full_parts, [first], [((nil,), Refused, "reason", ("radical",))]),
        Case("part_one", part_one, [first, space], refused),
        Case("part_paper", part_paper, [first, space], refused),
        Case("is_part_paper", is_part_paper, [first, space, value_parameter(paper)], judged),
        Case("part_entries", part_entries, [first, space, paper_parameter(paper), member], entries),
    ]


def ring_cases(prime):
    first = ring_parameter(Ring.stairs(prime, 2))
    return [Case(call.__name__, call, [first])
            for call in (kinds, unit_number, nilpotent_number, idempotent_kinds, split_subring, split_number)]


def split_cases(prime):
    first, right = ring_parameter(Ring.stairs(prime, 2)), ((1, 0, 0), (0, 0, 1))
    wrong = wrong_spaces(prime, 3) + [(), ((1, 0, 1),), ((1, 0, 0), (0, 1, 0), (0, 0, 1)), ((1, 0, 1), (0, 1, 0)), ((0, 1, 0),)]
    other = ((1, 0, 1), (0, 1, prime - 1))
    pair = [Parameter("one", right, InvalidSpace, wrong), Parameter("other", right, InvalidSpace, wrong)]
    assert not is_split_subring(first.right, ((1, 0, 1), (0, 1, 0))) and is_split_subring(first.right, other)
    return [
        Case("is_split_subring", is_split_subring, [first, value_parameter(right)]),
        Case("leading_nil", leading_nil, [first] + pair),
        Case("is_leading_nil", is_leading_nil, [first] + pair + [value_parameter((0, 0, 0))]),
    ]


class WrongArgumentsTest(unittest.TestCase):
    def run_all(self, cases):
        for prime in PRIMES:
            for case in cases(prime):
                run_case(self, case)

    def test_parts(self):
        self.run_all(part_cases)

    def test_rings(self):
        self.run_all(ring_cases)

    def test_split_subrings(self):
        self.run_all(split_cases)


if __name__ == "__main__":
    unittest.main()
