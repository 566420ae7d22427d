"""Wrong arguments of the functions over rows, tables, spaces and polynomials."""

import unittest

from tablerings.base.polys import (
    factors, first_irreducible, fitting, irreducible_number, is_irreducible, is_poly, least_poly, poly_less,
    poly_of_table, poly_parts, poly_product, poly_shared, poly_sum, whole_poly,
)
from tablerings.base.spaces import (
    bar, does_hold, followed, image, is_bar, is_solution, is_space, is_table, kernel, led, solution, space_meet,
    space_of, space_sum, undone_table,
)
from tablerings.errors import (
    InvalidNumber, InvalidOperation, InvalidPoly, InvalidRow, InvalidSpace, InvalidTable, Refused, TooMany,
)
from tests.samples import F2, PRIMES, junk
from tests.wrong import (
    Case, Parameter, run_case, without, wrong_integers, wrong_primes, wrong_row_tuples, wrong_rows, wrong_spaces,
)


def prime_parameter(prime):
    return Parameter("prime", prime, InvalidNumber, wrong_primes(), "given")


def width_parameter():
    return Parameter("width", 3, InvalidNumber, wrong_integers(1, 150), "given")


def row_parameter(name, prime, width):
    return Parameter(name, (0,) * (width - 1) + (1,), InvalidRow, wrong_rows(prime, width))


def space_parameter(name, prime):
    return Parameter(name, ((1, 0, 1), (0, 1, 1)), InvalidSpace, wrong_spaces(prime, 3))


def value_parameter(value):
    return Parameter("value", value, None, [])


def wrong_tables(prime):
    """Values that are no tables of 1 to 200 rows of one width from 1 to 150."""
    return junk() + [
        (), ((),), ((), ()), ((1, 0), (1,)), ((1,), (1, 0)), [(1, 0)], ((1, 0), [1, 0]), (1, 0), ((prime,),), ((-1,),),
        ((True,),), ((1, False),), ((0,),) * 201, ((0,) * 151,), ((0,) * 150,) * 201, (((1,),),), ((1, 0), None), "table",
        ((1, 10 ** 60),), ("10", "01"), {(1, 0): (1, 0)}, ((0,),) * 200 + ((),),
    ]


def table_parameter(name, prime, table):
    return Parameter(name, table, InvalidTable, wrong_tables(prime))


def wrong_polys(prime):
    """Values that are no polynomials that can be passed."""
    return without(junk(), lambda value: value == () and type(value) is tuple) + [
        (0,), (1, 0), (0, 0), (prime,), (1, prime), (-1,), [1], (True,), (0, True), (1, False, 1), 1, 0, "101", ((1,),),
        (0,) * 13 + (1,), (1,) * 14, (1, 10 ** 60), (1, None), (0,) * 12 + (0,), (1, "1"),
    ]


def poly_parameter(name, poly):
    return Parameter(name, poly, InvalidPoly, wrong_polys(7) + [(7, 1)])


def wrong_squares(prime):
    """Values that are no square tables of 1 to 12 rows."""
    return without(junk(), lambda value: value == ()) + [
        (), ((1, 0),), ((1,), (0,)), ((1, 0), (0,)), [(1, 0), (0, 1)], ((1, 0), [0, 1]), ((prime, 0), (0, 1)),
        ((True, 0), (0, 1)), ((0,) * 13,) * 13, ((0,) * 12,) * 11, ((0,) * 12,) * 13, ((),), (((1,),),), "1",
        ((1, 0), (0, 10 ** 60)), ((0,) * 11,) * 12,
    ]


def space_cases(prime):
    first, width = prime_parameter(prime), width_parameter()
    rows = Parameter("rows", ((1, 0, 1),), InvalidRow, wrong_row_tuples(prime, 3, 200))
    one, other = space_parameter("one", prime), space_parameter("other", prime)
    table = table_parameter("table", prime, ((1, 0, 1), (0, 1, 1)))
    tall = ((0, 1),) * 151
    task = [first, table, row_parameter("row", prime, 3)]
    square = table_parameter("table", prime, ((1, 1), (0, 1)))
    return [
        Case("space_of", space_of, [first, width, rows]),
        Case("is_space", is_space, [first, width, value_parameter(((1, 0, 1),))]),
        Case("does_hold", does_hold, [first, width, space_parameter("space", prime), row_parameter("row", prime, 3)]),
        Case("space_sum", space_sum, [first, width, one, other]),
        Case("space_meet", space_meet, [first, width, one, other]),
        Case("is_table", is_table, [first, value_parameter(((1, 0),))]),
        Case("led", led, [first, table, row_parameter("row", prime, 2)]),
        Case("followed", followed,
             [first, table_parameter("one", prime, ((1, 0),)), table_parameter("other", prime, ((1,), (1,)))],
             [((prime, ((1, 0),), ((1, 0),)), InvalidOperation, None, None),
              ((prime, ((1,),), ((1,), (1,))), InvalidOperation, None, None)]),
        Case("kernel", kernel, [first, table], [((prime, tall), TooMany, "most", 150)]),
        Case("image", image, [first, table]),
        Case("solution", solution, task),
        Case("is_solution", is_solution, task + [value_parameter((1, 0))]),
        Case("bar", bar, task),
        Case("is_bar", is_bar, task + [value_parameter((1, 0, 1))]),
        Case("undone_table", undone_table, [first, square],
             [((prime, ((1, 1), (1, 1))), Refused, "reason", ("singular",)),
              ((prime, ((0,),)), Refused, "reason", ("singular",)),
              ((prime, ((1, 1),)), InvalidOperation, None, None),
              ((prime, ((0,), (0,))), InvalidOperation, None, None)]),
    ]


def poly_cases(prime):
    first, one, other = prime_parameter(prime), poly_parameter("one", (1, 0, 1)), poly_parameter("other", (1, 1))
    poly = poly_parameter("poly", (1, 1, 1))
    square = Parameter("table", ((1, 1), (0, 1)), InvalidTable, wrong_squares(prime))
    return [
        Case("is_poly", is_poly, [first, value_parameter((1, 1))]),
        Case("poly_sum", poly_sum, [first, one, other]),
        Case("poly_less", poly_less, [first, one, other]),
        Case("poly_product", poly_product, [first, one, other]),
        Case("poly_parts", poly_parts, [first, one, other], [((prime, (1, 1), ()), Refused, "reason", ("zero",))]),
        Case("poly_shared", poly_shared, [first, one, other]),
        Case("is_irreducible", is_irreducible, [first, poly]),
        Case("factors", factors, [first, poly], [((prime, ()), Refused, "reason", ("zero",))]),
        Case("poly_of_table", poly_of_table, [first, poly, square]),
        Case("least_poly", least_poly, [first, square]),
        Case("whole_poly", whole_poly, [first, square]),
        Case("fitting", fitting, [first, square]),
        Case("first_irreducible", first_irreducible,
             [first, Parameter("degree", 2, InvalidNumber, wrong_integers(1, 6), "given")]),
        Case("irreducible_number", irreducible_number,
             [first, Parameter("degree", 2, InvalidNumber, wrong_integers(1, 12), "given")]),
    ]


class WrongArgumentsTest(unittest.TestCase):
    def test_spaces(self):
        for prime in PRIMES:
            for case in space_cases(prime):
                run_case(self, case)

    def test_polys(self):
        for prime in PRIMES:
            for case in poly_cases(prime):
                run_case(self, case)

    def test_residues_of_another_prime(self):
        self.assertRaises(InvalidPoly, poly_sum, 2, (2, 1), (1,))
        self.assertRaises(InvalidPoly, poly_sum, 5, (4, 1), (5, 1))
        self.assertRaises(InvalidRow, space_of, 2, 1, ((2,),))
        self.assertRaises(InvalidTable, image, 3, ((3,),))


class JudgedTest(unittest.TestCase):
    def test_what_is_no_space(self):
        for prime in PRIMES:
            for value in wrong_spaces(prime, 3):
                self.assertIs(is_space(prime, 3, value), False, value)

    def test_what_is_no_table(self):
        for prime in PRIMES:
            for value in wrong_tables(prime) + [10 ** 5000, (10 ** 5000,), ((10 ** 5000,),)]:
                self.assertIs(is_table(prime, value), False)

    def test_what_is_no_poly(self):
        for prime in PRIMES:
            for value in wrong_polys(prime) + [10 ** 5000, (10 ** 5000,), (1, -10 ** 5000)]:
                self.assertIs(is_poly(prime, value), False)

    def test_what_is_no_solution_and_no_bar(self):
        for prime in PRIMES:
            table = ((1, 0), (0, 1), (0, 0))
            self.assertIs(is_solution(prime, table, (1, 1), (1, 1, 0)), True)
            for value in wrong_rows(prime, 3) + [(10 ** 5000, 1, 0), (1, 1 + prime, 0), (1, True, 0), (), F2]:
                self.assertIs(is_solution(prime, table, (1, 1), value), False)
            self.assertIs(is_bar(prime, ((1, 0),), (0, 1), (0, 1)), True)
            for value in wrong_rows(prime, 2) + [(0, 10 ** 5000), (0, True), (False, 1), (), F2]:
                self.assertIs(is_bar(prime, ((1, 0),), (0, 1), value), False)


if __name__ == "__main__":
    unittest.main()
