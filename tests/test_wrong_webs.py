"""Wrong arguments of the functions of changes, webs and forms."""

import unittest

from tablerings.errors import (
    InvalidNumber, InvalidOperation, InvalidRing, InvalidRow, InvalidTable, InvalidWeb, Refused, TooMany,
)
from tablerings.rings.changes import (
    change_of, change_sizes, change_source, derivations, inner_derivations, is_closed, is_derivation, is_splitter,
    lift_ring, splitter,
)
from tablerings.rings.forms import (
    even_form, form_of, form_table, form_value, is_even_form, is_form, is_no_form_paper, no_form_paper, turn, turn_by,
)
from tablerings.rings.idempotents import parting
from tablerings.rings.rings import Ring
from tablerings.webs.webs import arrow_numbers, basic_ring, is_basic, is_picture, picture, web_paths, web_ring
from tests.samples import PRIMES, junk, low_ring
from tests.test_wrong_full import ring_parameter, value_parameter
from tests.test_wrong_rings import wrong_squares
from tests.web_samples import long_line
from tests.wrong import Case, Parameter, run_case, without, wrong_integers, wrong_primes, wrong_rows


def wrong_two_rows(prime, size):
    """Values that are no 2-rows of a ring of a size."""
    row = (1,) * size
    square = (row,) * size
    right = (square,) * size
    return junk() + [
        (), right[1:], right + (square,), list(right), square, (right,), (list(square),) + right[1:], (square[1:],) + right[1:],
        ((row[1:],) + square[1:],) + right[1:], ((list(row),) + square[1:],) + right[1:], right[1:] + (square + (row,),),
        (((prime,) + row[1:],) + square[1:],) + right[1:], (((True,) + row[1:],) + square[1:],) + right[1:],
        (((-1,) + row[1:],) + square[1:],) + right[1:], (((10 ** 60,) + row[1:],) + square[1:],) + right[1:],
        ((("1",) + row[1:],) + square[1:],) + right[1:], (((row,) + row[1:],) + square[1:],) + right[1:], (row,) * size, right[1:] + (None,),
    ]


def change_cases(prime):
    ring, great = Ring.of_poly(prime, (0, 0, 1)), Ring.of_poly(prime, (0,) * 5 + (1,))
    first, table = ring_parameter(ring), Parameter("table", ((0, 1), (1, 1)), InvalidTable, wrong_squares(prime, 2))
    bent = (((0, 0), (0, 0)), ((0, 0), (1, 0)))
    open_row, zeros = (((1, 0), (1, 0)), ((0, 0), (0, 0))), (((0,) * 5,) * 5,) * 5
    assert is_closed(ring, bent) and not is_closed(ring, open_row)
    row = Parameter("row", bent, InvalidTable, wrong_two_rows(prime, 2))
    then = [((ring, open_row), Refused, "reason", ("open",)), ((great, zeros), TooMany, "most", 4),
            ((great, (((1,) + (0,) * 4,) * 5,) * 5), TooMany, "most", 4)]
    # At a greater ring a wrong 2-row is told ahead of the size; those of the smaller one are wrong there, too.
    cases = [Case(call.__name__, call, [first]) for call in (derivations, inner_derivations, splitter)]
    return cases + [
        Case("change_sizes", change_sizes, [first], [((great,), TooMany, "most", 4)]),
        Case("is_derivation", is_derivation, [first, value_parameter(((0, 0), (0, 1)))]),
        Case("is_splitter", is_splitter, [first, value_parameter(None)]),
        Case("is_closed", is_closed, [first, value_parameter(bent)]),
        Case("change_of", change_of, [first, table]),
        Case("change_source", change_source, [first, row], then),
        Case("lift_ring", lift_ring, [first, row], then),
    ]


def wrong_arrows(points):
    """Values that are no tuples of at most nine pairs of points."""
    return without(junk(), lambda value: value == () and type(value) is tuple) + [
        ((0, points),), ((-1, 0),), ((0, 0), (points, 0)), ((0,),), ((0, 0, 0),), ([0, 0],), [(0, 0)], ((0, 0),) * 10, ((True, 0),), ((0, False),),
        ((0, None),), ((0, "0"),), (0, 0), ((0, (0,)),), ((0, 10 ** 60),), {(0, 0): 1}, ("00",), ((0, 0), None)]


def wrong_words(prime):
    """Values that are no tuples of at most 200 words for the arrows (0, 0), (0, 1), (1, 0)."""
    right = {(0, 0): 1}
    return without(junk(), lambda value: value == () and type(value) is tuple) + [
        right, [right], ({},), (right, {}), ((right,),), ({(0, 0): 0},), ({(0, 0): prime},), ({(0, 0): -1},), ({(0, 0): True},), ({(0, 0): "1"},),
        ({(0, 0): None},), ({(0, 0): (1,)},), ({(0, 0): 10 ** 60},), ({(): 1},), ({(0,): 1},), ({0: 1},), ({"00": 1},), ({None: 1},), ({(0, 3): 1},),
        ({(0, -1): 1},), ({(False, 0): 1},), ({(0, True): 1},), ({(0, None): 1},), ({(0, "0"): 1},), ({((0,), 0): 1},), ({(1, 1): 1},), ({(1, 0): 1},),
        ({(2, 2): 1},), ({(0, 0): 1, (1, 2, 0, 1): 1},), ({(0, 0): 1, (2, 1): 1},), ({(0, 1): 1, (0, 0): 1},), ({(0,) * 10: 1},), (right,) * 201,
        (right, None), (right, [((0, 0), 1)]), ({(0, 10 ** 60): 1},), ({(0, 0): 1, (0,): 1},), ({(0, 0): 1, (0, 0, 0): prime},)]


def web_cases(prime):
    arrows, words = ((0, 0), (0, 1), (1, 0)), ({(0, 0): 1, (1, 2): 1}, {(2, 1): 1}, {(0,) * 9: 1})
    parameters = [
        Parameter("prime", prime, InvalidNumber, wrong_primes(), "given"), Parameter("points", 2, InvalidNumber, wrong_integers(1, 9), "given"),
        Parameter("arrows", arrows, InvalidWeb, wrong_arrows(2)), Parameter("words", words, InvalidWeb, wrong_words(prime)),
        Parameter("depth", 3, InvalidNumber, wrong_integers(2, 10), "given")]
    then = [((prime, 1, ((0, 0),) * 6, (), 4), TooMany, "most", 200), ((prime, 1, ((0, 0),) * 9, (), 3), TooMany, "most", 9),
            ((prime, 9, ((0, 0),), (), 2), TooMany, "most", 9), ((prime, 1, ((0, 0), (0, 0)), ({(0, 1): 1},), 8), TooMany, "most", 200)]
    cases = [Case(call.__name__, call, parameters) for call in (web_ring, web_paths)]
    # Behind "then" stand values for other webs, so the wrong ones are those of the first parameter and of the last one.
    ends = [parameters[0]] + [Parameter(name, None, None, []) for name in ("points", "arrows", "words")] + [parameters[4]]
    ends = [Parameter(known.name, value, known.error, known.wrong, known.keeps) for known, value in zip(ends, (prime, 1, (), (), 2))]
    return cases + [Case(call.__name__, call, ends, then) for call in (web_ring, web_paths)]


def picture_cases(prime):
    ring, full, great = Ring.stairs(prime, 2), Ring.full(prime, 2), long_line(prime, 9)
    first = ring_parameter(ring)
    wrong = junk() + [(), (ring.one,), parting(ring)[:1], parting(ring) + ((0, 0, 0),), list(parting(ring)), ((1, 0, 0), (0, 0, 0), (0, 0, 1))]
    refused = [((full,), Refused, "reason", ("basic",)), ((great,), TooMany, "most", 200)]
    return [
        Case("is_basic", is_basic, [first]),
        Case("basic_ring", basic_ring, [first]),
        Case("arrow_numbers", arrow_numbers, [first, Parameter("some", parting(ring), InvalidOperation, wrong)]),
        Case("picture", picture, [first], refused),
        Case("is_picture", is_picture, [first, value_parameter(picture(ring))],
             [(values + (value,), error, keeps, kept) for values, error, keeps, kept in refused for value in (None, picture(ring))]),
    ]


def form_cases(prime):
    ring = Ring.full(prime, 2)
    first, great = ring_parameter(ring), low_ring(prime, 9)
    row, member = (Parameter(name, (1, 1, 0, 1), InvalidRow, wrong_rows(prime, 4)) for name in ("form", "member"))
    form = Parameter("form", (1, 0, 0, 1), InvalidOperation, wrong_rows(prime, 4) + [(0,) * 4, (1, 0, 0, 0), (1, 1, 1, 1)])
    unit = Parameter("unit", (1, 1, 0, 1), InvalidRow, wrong_rows(prime, 4))
    many = [((great,), TooMany, "most", 5000)] if prime > 2 else []
    then = [((ring, (1, 0, 0, 1), some), Refused, "reason", ("no unit",)) for some in ((0,) * 4, (1, 0, 0, 0), (1, 1, 1, 1))]
    return [
        Case("form_value", form_value, [first, row, member]),
        Case("form_table", form_table, [first, row]),
        Case("form_of", form_of, [first]),
        Case("is_form", is_form, [first, value_parameter((1, 0, 0, 1))]),
        Case("even_form", even_form, [first], many),
        Case("is_even_form", is_even_form, [first, value_parameter((1, 0, 0, 1))]),
        Case("no_form_paper", no_form_paper, [first]),
        Case("is_no_form_paper", is_no_form_paper, [first, value_parameter(None)]),
        Case("turn", turn, [first, form]),
        Case("turn_by", turn_by, [first, form, unit], then),
    ]


class WrongArgumentsTest(unittest.TestCase):
    def run_all(self, cases):
        for prime in PRIMES:
            for case in cases(prime):
                run_case(self, case)

    def test_changes(self):
        self.run_all(change_cases)

    def test_webs(self):
        self.run_all(web_cases)

    def test_pictures(self):
        self.run_all(picture_cases)

    def test_forms(self):
        self.run_all(form_cases)

    def test_rings_are_told_first(self):
        """A wrong ring comes ahead of all else, whatever is judged."""
        for call in (is_derivation, is_splitter, is_closed, is_picture, is_form, is_even_form, is_no_form_paper, arrow_numbers, turn):
            for value in junk()[::4]:
                self.assertRaises(InvalidRing, call, None, value)

    def test_what_is_right_next_to_it(self):
        """The greatest numbers that are let."""
        for prime in PRIMES:
            self.assertEqual(web_ring(prime, 9, (), (), 10).size, 9)
            self.assertEqual(web_ring(prime, 1, ((0, 0),) * 8, (), 2).size, 9)
            loop = tuple({(0,) * length: 1} for length in range(9, 1, -1)) * 25
            self.assertEqual(web_ring(prime, 1, ((0, 0),), loop, 10).size, 2)
            self.assertEqual(web_ring(prime, 1, ((0, 0),), ({(0,) * 9: 1},), 10).size, 9)
            self.assertEqual(web_ring(prime, 1, ((0, 0),), (), 9).size, 9)
            many = {tuple(1 if at >> place & 1 else 0 for place in range(7)): prime - 1 for at in range(128)}
            many.update({tuple(1 if at >> place & 1 else 0 for place in range(9)): 1 for at in range(72)})
            self.assertEqual([len(many), web_ring(prime, 1, ((0, 0), (0, 0)), (many,), 3).size], [200, 7])
            many[(1,) * 8] = 1
            self.assertRaises(InvalidWeb, web_ring, prime, 1, ((0, 0), (0, 0)), (many,), 3)
            self.assertEqual(len(change_sizes(Ring.of_poly(prime, (0,) * 4 + (1,)))), 2)


if __name__ == "__main__":
    unittest.main()
