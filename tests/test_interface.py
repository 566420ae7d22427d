"""The interface: every name stands in its module, with the parameters that the document tells."""

import importlib
import inspect
import unittest

FUNCTIONS = {
    "tablerings.base.spaces": (
        "space_of(prime, width, rows)", "is_space(prime, width, value)", "does_hold(prime, width, space, row)",
        "space_sum(prime, width, one, other)", "space_meet(prime, width, one, other)", "is_table(prime, value)",
        "led(prime, table, row)", "followed(prime, one, other)", "kernel(prime, table)", "image(prime, table)",
        "solution(prime, table, row)", "is_solution(prime, table, row, value)", "bar(prime, table, row)",
        "is_bar(prime, table, row, value)", "undone_table(prime, table)"),
    "tablerings.base.polys": (
        "is_poly(prime, value)", "poly_sum(prime, one, other)", "poly_less(prime, one, other)",
        "poly_product(prime, one, other)", "poly_parts(prime, one, other)", "poly_shared(prime, one, other)",
        "is_irreducible(prime, poly)", "factors(prime, poly)", "poly_of_table(prime, poly, table)",
        "least_poly(prime, table)", "whole_poly(prime, table)", "fitting(prime, table)",
        "first_irreducible(prime, degree)", "irreducible_number(prime, degree)"),
    "tablerings.rings.rings": (
        "ring_fault(prime, table)", "opposite(ring)", "rebased(ring, table)", "subring_made(ring, members)",
        "is_subring(ring, value)", "ring_of_subring(ring, space)"),
    "tablerings.rings.ideals": (
        "ideal_made(ring, members, *, side='both')", "is_ideal(ring, value, *, side='both')",
        "ideal_product(ring, one, other)", "quotient_ring(ring, space)", "quotient_row(ring, space, member)",
        "centre(ring)", "centralizer(ring, members)", "commutators(ring)", "killers(ring, members, *, side='left')"),
    "tablerings.rings.radical": (
        "radical(ring)", "radical_by_units(ring)", "trace_spaces(ring)", "radical_sizes(ring)",
        "socle(ring, *, side='left')", "is_nilpotent(ring, value)", "counted(ring, what)", "nil_paper(ring, members)",
        "is_nil_paper(ring, members, value)"),
    "tablerings.rings.idempotents": (
        "is_idempotent(ring, value)", "is_least_idempotent(ring, value)", "led_up(ring, member)", "parting(ring)",
        "is_parting(ring, value)", "like_paper(ring, one, other)", "is_like_paper(ring, one, other, value)",
        "leading_unit(ring, one, other)", "is_leading_unit(ring, one, other, value)", "central_parting(ring)"),
    "tablerings.rings.full": (
        "kinds(ring)", "full_parts(ring)", "part_one(ring, space)", "part_paper(ring, space)",
        "is_part_paper(ring, space, value)", "part_entries(ring, space, paper, member)", "unit_number(ring)",
        "nilpotent_number(ring)", "idempotent_kinds(ring)"),
    "tablerings.rings.split": (
        "split_subring(ring)", "is_split_subring(ring, value)", "leading_nil(ring, one, other)",
        "is_leading_nil(ring, one, other, value)", "split_number(ring)"),
    "tablerings.rooms.rooms": (
        "subroom_made(room, vectors)", "is_subroom(room, value)", "subroom(room, space)", "quotient_room(room, space)",
        "turned_room(room)", "rebased_room(room, table)", "room_killers(room)", "vector_killers(room, vector)"),
    "tablerings.rooms.least": (
        "room_paper(room)", "is_room_paper(room, value)", "least_rooms(ring)", "are_least_rooms(ring, value)",
        "list_of(room)", "layers(room)", "socle_layers(room)", "radical_by_rooms(ring)"),
    "tablerings.rooms.maps": (
        "maps(room, further)", "map_number(room, further)", "is_map(room, further, value)", "alike_map(room, further)",
        "is_alike_map(room, further, value)", "split_paper(room)", "is_split_paper(room, value)", "parts(room)",
        "are_parts(room, value)", "self_ring(room)", "times_in(part, room)", "unlike_paper(room, further)",
        "is_unlike_paper(room, further, value)"),
    "tablerings.rooms.free": (
        "free_rooms(ring)", "free_sum(ring, numbers)", "head_numbers(room)", "cover(room)", "is_cover(room, value)",
        "cartan(ring)", "blocks_of_rooms(ring)"),
    "tablerings.rooms.pulled": (
        "pulled(room)", "pulled_numbers(room, steps)", "pulled_length(room)", "lift_number(room, further, step)",
        "join_space(room, further)", "plain_joins(room, further)", "joined_room(room, further, join)"),
    "tablerings.rings.changes": (
        "derivations(ring)", "inner_derivations(ring)", "is_derivation(ring, value)", "splitter(ring)",
        "is_splitter(ring, value)", "change_of(ring, table)", "is_closed(ring, value)", "change_source(ring, row)",
        "change_sizes(ring)", "lift_ring(ring, row)"),
    "tablerings.webs.webs": (
        "web_ring(prime, points, arrows, words, depth)", "web_paths(prime, points, arrows, words, depth)",
        "is_basic(ring)", "basic_ring(ring)", "arrow_numbers(ring, some)", "picture(ring)", "is_picture(ring, value)"),
    "tablerings.rings.forms": (
        "form_value(ring, form, member)", "form_table(ring, form)", "form_of(ring)", "is_form(ring, value)",
        "even_form(ring)", "is_even_form(ring, value)", "no_form_paper(ring)", "is_no_form_paper(ring, value)",
        "turn(ring, form)", "turn_by(ring, form, unit)"),
    "tablerings.full.fields": (
        "field_ring(prime, degree)", "full_over(prime, degree, side)", "full_kind(ring)",
        "double_centralizer(ring, members)", "is_leading_map(ring, one, other)", "leading_unit_of(ring, one, other)",
        "is_leading_unit_of(ring, one, other, value)", "pair_number(prime, degree, side)", "pairs_counted(ring)",
        "signed_sum(ring, members)"),
    "tablerings.rooms.lines": (
        "is_line_ring(ring)", "ladder_lengths(ring)", "next_heads(ring)", "stretches(room)",
        "room_of_stretch(ring, head, length)", "stretch_maps(ring, one, other)"),
    "tablerings.text.texts": (
        "write_space(prime, width, space)", "write_ring(ring)", "write_room(room)", "read_space(text)",
        "read_ring(text)", "read_room(text)"),
}

CONSTANTS = {
    "tablerings.base.spaces": {"MAX_WIDTH": 150, "MAX_ROWS": 200},
    "tablerings.base.polys": {"MAX_DEGREE": 12},
    "tablerings.rings.rings": {"MAX_SIZE": 9, "MAX_SIDE": 3},
    "tablerings.rings.ideals": {"SIDES": ("left", "right", "both")},
    "tablerings.rings.radical": {"MAX_TRIED": 5000},
    "tablerings.rooms.rooms": {"MAX_ROOM": 40},
    "tablerings.rooms.maps": {"MAX_MAP": 144, "MAX_SELF": 40},
    "tablerings.rooms.free": {"MAX_COVER": 40},
    "tablerings.rooms.pulled": {"MAX_PULLED": 6, "MAX_STEPS": 8, "MAX_JOINED": 150},
    "tablerings.rings.changes": {"MAX_CHANGED": 4},
    "tablerings.webs.webs": {"MAX_POINTS": 9, "MAX_ARROWS": 9, "MAX_DEPTH": 10, "MAX_PATHS": 200},
    "tablerings.rings.forms": {"MAX_TRIED": 5000},
    "tablerings.full.fields": {"MAX_TRIED": 5000, "MAX_FACTORS": 6},
    "tablerings.desk.desk": {"MAX_NAME": 8, "MAX_SAID": 20, "MAX_WIDE": 12},
    "tablerings.text.texts": {"MAX_TEXT": 20000},
}

CLASSES = {
    "tablerings.rings.rings": ("Ring", "(prime, table)", (
        "added(self, one, other)", "product(self, one, other)", "times(self, number, member)",
        "power(self, member, number)", "is_unit(self, value)", "inverse(self, member)"), (
        "full(cls, prime, side)", "stairs(cls, prime, side)", "of_moves(cls, prime, moves)", "of_poly(cls, prime, poly)",
        "both(cls, one, other)"),
        ("__contains__", "__eq__", "__str__"), ("prime", "size", "table", "one", "many")),
    "tablerings.rooms.rooms": ("Room", "(ring, tables)", (
        "led_by(self, member, vector)",), ("own(cls, ring)", "nothing(cls, ring)", "side_by_side(cls, room, further)"),
        ("__eq__", "__str__"), ("ring", "size", "tables")),
    "tablerings.desk.desk": ("Desk", "(ring)", (
        "do(self, *deeds)", "say(self, saying)", "unsay(self, saying)", "is_true(self, value)", "undo(self, steps=1)",
        "twin(self)"), (),
        ("__contains__", "__getitem__", "__len__", "__iter__", "__eq__", "__str__"), ("ring", "kept", "sayings", "past")),
}

ERRORS = {
    "RingError": ValueError, "InvalidNumber": IndexError, "UnknownName": KeyError, "TooMany": OverflowError,
    "Refused": ArithmeticError, "NothingToUndo": LookupError,
}


class InterfaceTest(unittest.TestCase):
    def test_functions(self):
        for module, told in FUNCTIONS.items():
            known = importlib.import_module(module)
            for row in told:
                found = getattr(known, row[:row.index("(")])
                self.assertEqual(found.__name__ + str(inspect.signature(found)), row)
                self.assertEqual(found.__module__, module)

    def test_constants(self):
        for module, told in CONSTANTS.items():
            for name, value in told.items():
                self.assertEqual(getattr(importlib.import_module(module), name), value)

    def test_classes(self):
        for module, (word, signature, methods, class_methods, signs, properties) in CLASSES.items():
            known = getattr(importlib.import_module(module), word)
            self.assertEqual(known.__module__, module)
            self.assertEqual(str(inspect.signature(known)), signature)
            for row in methods:
                name = row[:row.index("(")]
                self.assertEqual(name + str(inspect.signature(vars(known)[name])), row)
            for row in class_methods:
                name = row[:row.index("(")]
                self.assertIsInstance(vars(known)[name], classmethod)
                self.assertEqual(name + str(inspect.signature(vars(known)[name].__func__)), row)
            for name in signs:
                self.assertIn(name, vars(known))
            for name in properties:
                self.assertIsInstance(vars(known)[name], property)
                self.assertTrue(hasattr(self.sample(word), name))

    def sample(self, word):
        """An object of a class."""
        ring = importlib.import_module("tablerings.rings.rings").Ring.full(2, 2)
        if word == "Desk":
            return importlib.import_module("tablerings.desk.desk").Desk(ring)
        return ring if word == "Ring" else importlib.import_module("tablerings.rooms.rooms").Room.own(ring)

    def test_properties_are_not_set(self):
        for word, names in (("Ring", ("prime", "size", "table", "one", "many")), ("Room", ("ring", "size", "tables")),
                            ("Desk", ("ring", "kept", "sayings", "past"))):
            for name in names:
                with self.assertRaises(AttributeError):
                    setattr(self.sample(word), name, 1)

    def test_errors_stand_in_their_module(self):
        errors = importlib.import_module("tablerings.errors")
        names = [name for name, value in vars(errors).items() if isinstance(value, type)]
        self.assertEqual(len(names), 15)
        for name in names:
            known = getattr(errors, name)
            self.assertEqual(known.__module__, "tablerings.errors")
            self.assertEqual(known.__bases__, (ERRORS.get(name, errors.RingError),))

    def test_whole(self):
        """All names that the document lists stand in the tables above, each in one module alone."""
        told = [row[:row.index("(")] for rows in FUNCTIONS.values() for row in rows]
        self.assertEqual([len(told), len(set(told)), len(FUNCTIONS), len(CONSTANTS), len(CLASSES)], [169, 169, 19, 15, 3])

    def test_only_what_is_iterated_over(self):
        for word in ("Ring", "Room"):
            with self.assertRaises(TypeError):
                iter(self.sample(word))
        self.assertEqual(list(self.sample("Desk")), [])


if __name__ == "__main__":
    unittest.main()
