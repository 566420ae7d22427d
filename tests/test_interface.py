"""The interface: every name stands in its module, with the parameters that the document tells."""

import importlib
import inspect
import unittest

FUNCTIONS = {
    "tablerings.base.spaces": (
        "space_of(prime, width, rows)", "is_space(prime, width, value)", "does_hold(prime, width, space, row)",
        "space_sum(prime, width, one, other)", "space_meet(prime, width, one, other)", "is_table(prime, value)",
        "led(prime, table, row)", "followed(prime, one, other)", "kernel(prime, table)", "image(prime, table)",
        "solution(prime, table, row)", "is_solution(prime, table, row, value)", "bar(prime, table, row)",
        "is_bar(prime, table, row, value)", "undone_table(prime, table)"),
    "tablerings.base.polys": (
        "is_poly(prime, value)", "poly_sum(prime, one, other)", "poly_less(prime, one, other)",
        "poly_product(prime, one, other)", "poly_parts(prime, one, other)", "poly_shared(prime, one, other)",
        "is_irreducible(prime, poly)", "factors(prime, poly)", "poly_of_table(prime, poly, table)",
        "least_poly(prime, table)", "whole_poly(prime, table)", "fitting(prime, table)",
        "first_irreducible(prime, degree)", "irreducible_number(prime, degree)"),
    "tablerings.rings.rings": (
        "ring_fault(prime, table)", "opposite(ring)", "rebased(ring, table)", "subring_made(ring, members)",
        "is_subring(ring, value)", "ring_of_subring(ring, space)"),
    "tablerings.rings.ideals": (
        "ideal_made(ring, members, *, side='both')", "is_ideal(ring, value, *, side='both')",
        "ideal_product(ring, one, other)", "quotient_ring(ring, space)", "quotient_row(ring, space, member)",
        "centre(ring)", "centralizer(ring, members)", "commutators(ring)", "killers(ring, members, *, side='left')"),
    "tablerings.rings.radical": (
        "radical(ring)", "radical_by_units(ring)", "trace_spaces(ring)", "radical_sizes(ring)",
        "socle(ring, *, side='left')", "is_nilpotent(ring, value)", "counted(ring, what)", "nil_paper(ring, members)",
        "is_nil_paper(ring, members, value)"),
    "tablerings.rings.idempotents": (
        "is_idempotent(ring, value)", "is_least_idempotent(ring, value)", "led_up(ring, member)", "parting(ring)",
        "is_parting(ring, value)", "like_paper(ring, one, other)", "is_like_paper(ring, one, other, value)",
        "leading_unit(ring, one, other)", "is_leading_unit(ring, one, other, value)", "central_parting(ring)"),
}

CONSTANTS = {
    "tablerings.base.spaces": {"MAX_WIDTH": 150, "MAX_ROWS": 200},
    "tablerings.base.polys": {"MAX_DEGREE": 12},
    "tablerings.rings.rings": {"MAX_SIZE": 9, "MAX_SIDE": 3},
    "tablerings.rings.ideals": {"SIDES": ("left", "right", "both")},
    "tablerings.rings.radical": {"MAX_TRIED": 5000},
}

METHODS = ("added(self, one, other)", "product(self, one, other)", "times(self, number, member)",
           "power(self, member, number)", "is_unit(self, value)", "inverse(self, member)")
CLASS_METHODS = ("full(cls, prime, side)", "stairs(cls, prime, side)", "of_moves(cls, prime, moves)",
                 "of_poly(cls, prime, poly)", "both(cls, one, other)")
PROPERTIES = ("prime", "size", "table", "one", "many")


class InterfaceTest(unittest.TestCase):
    def test_functions(self):
        for module, told in FUNCTIONS.items():
            known = importlib.import_module(module)
            for row in told:
                found = getattr(known, row[:row.index("(")])
                self.assertEqual(found.__name__ + str(inspect.signature(found)), row)
                self.assertEqual(found.__module__, module)

    def test_constants(self):
        for module, told in CONSTANTS.items():
            for name, value in told.items():
                self.assertEqual(getattr(importlib.import_module(module), name), value)

    def test_the_class(self):
        known = importlib.import_module("tablerings.rings.rings").Ring
        self.assertEqual(known.__module__, "tablerings.rings.rings")
        self.assertEqual(str(inspect.signature(known)), "(prime, table)")
        for row in METHODS:
            name = row[:row.index("(")]
            self.assertEqual(name + str(inspect.signature(vars(known)[name])), row)
        for row in CLASS_METHODS:
            name = row[:row.index("(")]
            self.assertIsInstance(vars(known)[name], classmethod)
            self.assertEqual(name + str(inspect.signature(vars(known)[name].__func__)), row)
        for name in ("__contains__", "__eq__", "__str__"):
            self.assertIn(name, vars(known))
        for name in PROPERTIES:
            self.assertTrue(hasattr(known.full(2, 2), name))

    def test_errors_stand_in_their_module(self):
        errors = importlib.import_module("tablerings.errors")
        names = [name for name, value in vars(errors).items() if isinstance(value, type)]
        self.assertEqual(len(names), 15)
        for name in names:
            self.assertEqual(getattr(errors, name).__module__, "tablerings.errors")


if __name__ == "__main__":
    unittest.main()
