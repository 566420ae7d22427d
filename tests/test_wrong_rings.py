"""Wrong arguments of the class of rings, its methods, and the functions over rings."""

import unittest

from tablerings.errors import (
    InvalidNumber, InvalidOperation, InvalidPoly, InvalidRing, InvalidRow, InvalidSpace, InvalidTable, Refused, TooMany,
)
from tablerings.rings.ideals import (
    centralizer, centre, commutators, ideal_made, ideal_product, is_ideal, killers, quotient_ring, quotient_row,
)
from tablerings.rings.idempotents import (
    central_parting, is_idempotent, is_least_idempotent, is_leading_unit, is_like_paper, is_parting, leading_unit,
    led_up, like_paper, parting,
)
from tablerings.rings.radical import (
    counted, is_nil_paper, is_nilpotent, nil_paper, radical, radical_by_units, radical_sizes, socle, trace_spaces,
)
from tablerings.rings.rings import Ring, is_subring, opposite, rebased, ring_fault, ring_of_subring, subring_made
from tests.samples import F2, K9, PRIMES, U3, junk
from tests.wrong import (
    Case, Parameter, run_case, without, wrong_integers, wrong_primes, wrong_row_tuples, wrong_rows, wrong_spaces,
)

SIDES = junk() + ["Left", "middle", "up", ("left",), ["both"], "left,right", "lefts", 0, 1]


def stairs(prime):
    """The ring of upper tables of side 2, with e0 and e2 idempotents, and e1 in J."""
    return Ring.stairs(prime, 2)


def wrong_rings():
    """Values that are no rings."""
    return without(junk(), lambda value: isinstance(value, Ring)) + [Ring, (2, (((1,),),)), "ring", [F2], {"ring": F2}, 2]


def prime_parameter(prime):
    return Parameter("prime", prime, InvalidNumber, wrong_primes(), "given")


def ring_parameter(prime, name="ring"):
    return Parameter(name, stairs(prime), InvalidRing, wrong_rings())


def member_parameter(name, prime, right):
    return Parameter(name, right, InvalidRow, wrong_rows(prime, 3))


def members_parameter(prime):
    return Parameter("members", ((0, 1, 0), (0, 1, 0)), InvalidRow, wrong_row_tuples(prime, 3, 100))


def space_parameter(name, prime, right):
    return Parameter(name, right, InvalidSpace, wrong_spaces(prime, 3))


def side_parameter(right, more=()):
    return Parameter("side", right, InvalidOperation, SIDES + list(more), keyword=True)


def wrong_products(prime):
    """Values that are no tables of products of 1 to 9 base members."""
    unit = (1, 0)
    return junk() + [
        (), ((),), (((),),), ((1,),), (((prime,),),), (((-1,),),), (((True,),),), (((False,),),), [((1,),)], ([(1,)],), (([1],),),
        ((unit, unit),), ((unit, unit), (unit,)), ((unit, unit), (unit, (1,))), ((unit, unit), (unit, (1, 0, 0))),
        ((unit, unit), (unit, [0, 1])), ((unit, unit), [unit, unit]), (((0,) * 10,) * 10,) * 10, (((0,) * 9,) * 9,) * 8,
        (((0,) * 9,) * 8,) * 9, (((0,) * 8,) * 9,) * 9, (((10 ** 60,),),), (((None,),),), ((("1",),),), "1", 1,
    ]


def wrong_moves():
    """Values that are no tuples of 1 to 3 renamings of one number of places."""
    return junk() + [
        (), ((),), ((), ()), ((0,), ()), ((1,),), ((0, 0),), ((1, 2),), ((0, 2),), ((-1, 0),), ((0, True),), ((False, 1),),
        ((0, 1), (0, 1, 2)), ((0,),) * 4, [(0, 1)], ([0, 1],), (0, 1), ((0, 1), None), (("0", "1"),), (tuple(range(10)),),
        ((0, 10 ** 60),), ((1, 0), (1, [0])), (((0,),),), "01",
    ]


def wrong_ring_polys(prime):
    """Values that are no monic polynomials of a degree from 1 to 9."""
    values = junk() + [
        (), (1,), (0,), (0, 0, 1, 0), (0,) * 10 + (1,), (0,) * 12 + (1,), (prime, 1), (-1, 1), [0, 1], (0, True), (True, 1),
        (0, None), "01", (0, 10 ** 60), ((0, 1),), 1,
    ]
    return values + ([(0, 2), (1, prime - 1)] if prime > 2 else [])


def wrong_squares(prime, size):
    """Values that are no tables of so many rows of this width."""
    row = (1,) * size
    return wrong_row_tuples(prime, size, size)[:-4] + [(), (row,) * (size - 1), (row,) * (size + 1), [row] * size]


def class_cases(prime):
    first = prime_parameter(prime)
    table = ((((1, 0), (0, 1)), ((0, 1), (0, 0))))
    no_group = (((0, 1), (1, 0)), ((0, 0), (1, 1)))
    side = Parameter("side", 2, InvalidNumber, wrong_integers(1, 3), "given")
    no_one = (((0,),),)
    long = (0,) * 3 + (1,)
    both = [ring_parameter(prime, "one"), ring_parameter(prime, "other")]
    unlike = Ring.full(2 if prime > 2 else 3, 2)
    great = Ring.full(2 if prime > 2 else 3, 3)
    return [
        Case("Ring", Ring, [first, Parameter("table", table, InvalidTable, wrong_products(prime))],
             [((prime, no_one), InvalidRing, None, None), ((prime, no_group), InvalidRing, None, None),
              ((prime, (((0,) * 9,) * 9,) * 9), InvalidRing, None, None)]),
        Case("full", Ring.full, [first, side]),
        Case("stairs", Ring.stairs, [first, side]),
        Case("of_moves", Ring.of_moves, [first, Parameter("moves", ((1, 2, 0),), InvalidTable, wrong_moves())],
             [((prime, ((1, 0, 2, 3), (1, 2, 3, 0))), TooMany, "most", 9),
              ((prime, ((1, 2, 0, 4, 3), (1, 0, 2, 3, 4))), TooMany, "most", 9),
              ((prime, ((1, 2, 3, 4, 0, 6, 5),)), TooMany, "most", 9),
              ((prime, ((1, 2, 3, 0, 5, 6, 4),)), TooMany, "most", 9),
              ((prime, ((1, 2, 3, 4, 5, 6, 7, 8, 0), (1, 0, 2, 3, 4, 5, 6, 7, 8))), TooMany, "most", 9)]),
        Case("of_poly", Ring.of_poly, [first, Parameter("poly", long, InvalidPoly, wrong_ring_polys(prime))]),
        Case("both", Ring.both, both,
             [((stairs(prime), unlike), InvalidOperation, None, None),
              ((Ring.full(prime, 3), great), InvalidOperation, None, None),
              ((Ring.full(prime, 3), Ring.full(prime, 1)), TooMany, "most", 9),
              ((Ring.full(prime, 1), Ring.full(prime, 3)), TooMany, "most", 9)]),
        Case("ring_fault", ring_fault, [first, Parameter("table", no_one, InvalidTable, wrong_products(prime))]),
    ]


def method_cases(prime):
    ring = stairs(prime)
    one, other = member_parameter("one", prime, (1, 1, 0)), member_parameter("other", prime, (0, 1, 1))
    member = member_parameter("member", prime, (1, 1, 1))
    whole = without(wrong_integers(0, 0), lambda value: type(value) is int and abs(value) < 10 ** 60)
    number = Parameter("number", -10 ** 60 + 1, InvalidNumber, whole + [10 ** 60, -10 ** 60], "given")
    exponent = Parameter("number", 10 ** 60 - 1, InvalidNumber, whole + [10 ** 60, -1, -5, -10 ** 60], "given")
    return [
        Case("added", ring.added, [one, other]),
        Case("product", ring.product, [one, other]),
        Case("times", ring.times, [number, member]),
        Case("power", ring.power, [member, exponent]),
        Case("is_unit", ring.is_unit, [Parameter("value", (1, 1, 1), None, [])]),
        Case("inverse", ring.inverse, [member],
             [(((0, 0, 0),), Refused, "reason", ("no unit",)), (((1, 1, 0),), Refused, "reason", ("no unit",))]),
    ]


def ring_cases(prime):
    ring, first = stairs(prime), ring_parameter(prime)
    low = ((1, 0, 0), (0, 0, 1))
    members, value = members_parameter(prime), Parameter("value", ((0, 1, 0),), None, [])
    square = Parameter("table", ((1, 0, 0), (1, 1, 0), (1, 1, 1)), InvalidTable, wrong_squares(prime, 3))
    return [
        Case("opposite", opposite, [first]),
        Case("rebased", rebased, [first, square],
             [((ring, ((1, 0, 0), (0, 1, 0), (1, 1, 0))), Refused, "reason", ("singular",)),
              ((ring, ((0, 0, 0),) * 3), Refused, "reason", ("singular",))]),
        Case("subring_made", subring_made, [first, members]),
        Case("is_subring", is_subring, [first, value]),
        Case("ring_of_subring", ring_of_subring, [first, space_parameter("space", prime, low)],
             [((ring, ()), Refused, "reason", ("no subring",)), ((ring, low[:1]), Refused, "reason", ("no subring",))]),
    ]


def ideal_cases(prime):
    ring, first, members = stairs(prime), ring_parameter(prime), members_parameter(prime)
    nil, high = ((0, 1, 0),), ((1, 0, 0),)
    whole = ((1, 0, 0), (0, 1, 0), (0, 0, 1))
    space = space_parameter("space", prime, nil)
    refused = [(high, "ideal"), (whole, "whole")]
    return [
        Case("ideal_made", ideal_made, [first, members, side_parameter("right")]),
        Case("is_ideal", is_ideal, [first, Parameter("value", nil, None, []), side_parameter("left")]),
        Case("ideal_product", ideal_product, [first, space_parameter("one", prime, nil), space_parameter("other", prime, high)]),
        Case("quotient_ring", quotient_ring, [first, space],
             [((ring, low), Refused, "reason", (word,)) for low, word in refused]),
        Case("quotient_row", quotient_row, [first, space, member_parameter("member", prime, (1, 1, 1))],
             [((ring, low, (1, 1, 1)), Refused, "reason", (word,)) for low, word in refused]),
        Case("centre", centre, [first]),
        Case("centralizer", centralizer, [first, members]),
        Case("commutators", commutators, [first]),
        Case("killers", killers, [first, members, side_parameter("right", ["both"])]),
    ]


def radical_cases(prime):
    first, members, great = ring_parameter(prime), members_parameter(prime), Ring.full(prime, 3)
    # The greatest ring over 2 has 512 members, so there is none too great for a trial.
    great = great if prime > 2 else None
    what = Parameter("what", "units", InvalidOperation, junk() + ["unit", "idempotents", ["units"], ("units",), 1, "J"])
    cases = [
        Case("radical", radical, [first]),
        Case("radical_by_units", radical_by_units, [first], [((great,), TooMany, "most", 5000)] if great else []),
        Case("trace_spaces", trace_spaces, [first]),
        Case("radical_sizes", radical_sizes, [first]),
        Case("socle", socle, [first, side_parameter("right", ["both"])]),
        Case("is_nilpotent", is_nilpotent, [first, Parameter("value", (0, 1, 0), None, [])]),
        Case("counted", counted, [first, what],
             [((great, word), TooMany, "most", 5000) for word in ("units", "nilpotent", "idempotent")] if great else []),
        Case("nil_paper", nil_paper, [first, members]),
        Case("is_nil_paper", is_nil_paper, [first, members, Parameter("value", ("power", 2), None, [])]),
    ]
    return cases


def idempotent_cases(prime):
    ring, first = stairs(prime), ring_parameter(prime)
    one, other = member_parameter("one", prime, (1, 0, 0)), member_parameter("other", prime, (1, 1, 0))
    pair, turned = ((1, 0, 0), (0, 0, 1)), ((0, 0, 1), (1, 0, 0))
    wrong = junk() + [(), ((1, 0, 1),), ((1, 0, 0),), pair[:1] * 2, list(pair), pair + ((0, 0, 0),), ((1, 0, 0), (0, 1, 1)),
                      ((1, 0, 0), [0, 0, 1]), ((True, 0, 0), (0, 0, 1)), ((1, 1, 0), (0, 1, 1)) if prime > 2 else 1]
    partings = [Parameter("one", pair, InvalidOperation, wrong), Parameter("other", turned, InvalidOperation, wrong)]
    value = [Parameter("value", (0, 0, 0), None, [])]
    bad = [((ring, (0, 1, 0), (1, 0, 0)), InvalidOperation, None, None),
           ((ring, (1, 0, 0), (0, 1, 0)), InvalidOperation, None, None),
           ((ring, (0, 1, 0), (0, 1, 0)), InvalidOperation, None, None)]
    judged = [((ring, low, high, None), error, keeps, kept) for (_, low, high), error, keeps, kept in bad]
    return [
        Case("is_idempotent", is_idempotent, [first] + value),
        Case("is_least_idempotent", is_least_idempotent, [first] + value),
        Case("led_up", led_up, [first, member_parameter("member", prime, (1, 1, 0))]),
        Case("parting", parting, [first]),
        Case("is_parting", is_parting, [first] + value),
        Case("like_paper", like_paper, [first, one, other], bad),
        Case("is_like_paper", is_like_paper, [first, one, other] + value, judged),
        Case("leading_unit", leading_unit, [first] + partings),
        Case("is_leading_unit", is_leading_unit, [first] + partings + value),
        Case("central_parting", central_parting, [first]),
    ]


class WrongArgumentsTest(unittest.TestCase):
    def run_all(self, cases):
        for prime in PRIMES:
            for case in cases(prime):
                run_case(self, case)

    def test_the_class(self):
        self.run_all(class_cases)

    def test_methods(self):
        self.run_all(method_cases)

    def test_rings(self):
        self.run_all(ring_cases)

    def test_ideals(self):
        self.run_all(ideal_cases)

    def test_radical(self):
        self.run_all(radical_cases)

    def test_idempotents(self):
        self.run_all(idempotent_cases)

    def test_led_up_is_open(self):
        for prime in PRIMES:
            low = Ring.both(Ring.of_poly(prime, (0, 0, 1)), Ring.full(prime, 2))
            for member in ((1, 0, 0, 1, 0, 0), (0, 0, 0, 1, 1, 0), (1, 1, 1, 1, 1, 1)):
                case = Case("led_up", led_up, [Parameter("ring", low, InvalidRing, wrong_rings()),
                                               Parameter("member", (0,) * 6, InvalidRow, wrong_rows(prime, 6))],
                            [((low, member), Refused, "reason", ("open",))])
                run_case(self, case)

    def test_members_of_another_ring(self):
        self.assertRaises(InvalidRow, F2.product, K9.one, F2.one)
        self.assertRaises(InvalidRow, F2.product, F2.one, K9.one)
        self.assertRaises(InvalidRow, K9.added, (0, 3), (0, 0))
        self.assertRaises(InvalidSpace, quotient_ring, U3, ((0, 1),))

    def test_keywords_are_needed(self):
        for call in (lambda: ideal_made(F2, (), "left"), lambda: is_ideal(F2, (), "left"), lambda: killers(F2, (), "left"),
                     lambda: socle(F2, "left")):
            self.assertRaises(TypeError, call)


if __name__ == "__main__":
    unittest.main()
