"""The examples of the document, word for word: the value, or the error with what it keeps."""

import unittest

from tablerings import errors
from tablerings.base import polys, spaces
from tablerings.desk import desk as desk_module
from tablerings.full import fields
from tablerings.rings import changes, forms, full, ideals, idempotents, radical, rings, split
from tablerings.rooms import free, least, lines, maps, pulled, rooms
from tablerings.text import texts
from tablerings.webs import webs

MODULES = (errors, spaces, polys, rings, ideals, radical, idempotents, full, split, rooms, least, maps, free, pulled,
           changes, webs, forms, fields, lines, desk_module, texts)

EXAMPLES = """
>>> F2, U3, K9 = Ring.full(2, 2), Ring.stairs(2, 3), Ring.of_poly(3, (1, 0, 1))
>>> S3, C4 = Ring.of_moves(2, ((1, 0, 2), (1, 2, 0))), Ring.of_moves(2, ((1, 2, 3, 0),))
>>> N4 = Ring.of_poly(3, (0, 0, 0, 0, 1))
>>> [space_of(3, 3, ((1, 2, 0), (2, 1, 0), (0, 1, 1))), is_space(3, 3, ((0, 1, 1), (1, 0, 1))), does_hold(3, 3, ((1, 0, 1), (0, 1, 1)), (1, 1, 2)), space_of(2, 2, ())]
[((1, 0, 1), (0, 1, 1)), False, True, ()]
>>> [space_meet(2, 3, ((1, 0, 0), (0, 1, 0)), ((0, 1, 0), (0, 0, 1))), space_sum(2, 3, ((1, 1, 0),), ((0, 1, 1),))]
[((0, 1, 0),), ((1, 0, 1), (0, 1, 1))]
>>> [led(5, ((1, 2), (3, 4), (0, 1)), (1, 1, 2)), followed(2, ((1, 1), (0, 1)), ((0, 1), (1, 0)))]
[(4, 3), ((1, 1), (1, 0))]
>>> [kernel(2, ((1, 1), (1, 1), (0, 1))), image(2, ((1, 1), (1, 1), (0, 1))), undone_table(5, ((2, 1), (1, 1)))]
[((1, 1, 0),), ((1, 0), (0, 1)), ((1, 4), (4, 2))]
>>> [solution(3, ((1, 1), (0, 1)), (1, 2)), solution(3, ((1, 1), (2, 2)), (1, 2)), is_bar(3, ((1, 1), (2, 2)), (1, 2), (1, 2)), bar(3, ((1, 1), (0, 1)), (1, 2))]
[(1, 1), None, True, None]
>>> undone_table(2, ((1, 1), (1, 1)))
raises Refused(('singular',))
>>> [poly_parts(2, (1, 0, 1, 1), (1, 1)), poly_shared(3, (2, 0, 1), (1, 1)), factors(2, (1, 0, 1)), factors(3, (2, 0, 2)), is_irreducible(2, (1, 0, 1, 0, 1))]
[((0, 0, 1), (1,)), (1, 1), (1, (((1, 1), 2),)), (2, (((1, 0, 1), 1),)), False]
>>> [least_poly(2, ((0, 1), (1, 0))), least_poly(5, ((3, 0), (0, 3))), whole_poly(5, ((3, 0), (0, 3))), poly_of_table(3, (1, 1), ((0, 1), (0, 0)))]
[(1, 0, 1), (2, 1), (4, 4, 1), ((1, 1), (0, 1))]
>>> [fitting(3, ((0, 1), (0, 0))), fitting(3, ((1, 1), (0, 0))), first_irreducible(2, 3), irreducible_number(2, 6)]
[(((1, 0), (0, 1)), ()), (((0, 1),), ((1, 1),)), (1, 0, 1, 1), 9]
>>> poly_parts(2, (1,), ())
raises Refused(('zero',))
>>> [F2.one, F2.product((0, 1, 0, 0), (0, 0, 1, 0)), str(F2), F2.many, U3.size, S3.one, C4.power((1, 1, 0, 0), 4)]
[(1, 0, 0, 1), (1, 0, 0, 0), 'ring of 4 over 2', 16, 6, (1, 0, 0, 0, 0, 0), (0, 0, 0, 0)]
>>> [K9.product((0, 1), (0, 1)), K9.inverse((1, 1)), K9.is_unit((0, 0)), subring_made(F2, ((0, 1, 0, 0),))]
[(2, 0), (2, 1), False, ((1, 0, 0, 1), (0, 1, 0, 0))]
>>> [ring_fault(2, (((1,),),)), ring_fault(2, (((0,),),)), rebased(K9, ((1, 0), (1, 1))).table[1][1]]
[None, ('one',), (1, 2)]
>>> U3.inverse((1, 0, 0, 0, 0, 1))
raises Refused(("no unit",))
>>> [ideal_made(F2, ((0, 1, 0, 0),), side="left"), ideal_made(F2, ((0, 1, 0, 0),), side="right"), len(ideal_made(F2, ((0, 1, 0, 0),)))]
[((0, 1, 0, 0), (0, 0, 0, 1)), ((1, 0, 0, 0), (0, 1, 0, 0)), 4]
>>> [ideal_made(U3, ((0, 1, 0, 0, 0, 0),)), is_ideal(U3, ((0, 0, 1, 0, 0, 0),)), is_ideal(U3, ((0, 1, 0, 0, 0, 0),))]
[((0, 1, 0, 0, 0, 0), (0, 0, 1, 0, 0, 0)), True, False]
>>> HALF = ((0, 0, 1, 0), (0, 0, 0, 1))
>>> [ideal_product(N4, HALF, HALF), quotient_ring(N4, HALF) == Ring.of_poly(3, (0, 0, 1)), quotient_row(N4, HALF, (2, 1, 1, 0))]
[(), True, (2, 1)]
>>> [centre(F2), commutators(F2), centralizer(F2, ((0, 1, 0, 0),)), centre(U3), len(killers(U3, ((0, 1, 0, 0, 0, 0),))), killers(N4, HALF)]
[((1, 0, 0, 1),), ((1, 0, 0, 1), (0, 1, 0, 0), (0, 0, 1, 0)), ((1, 0, 0, 1), (0, 1, 0, 0)), ((1, 0, 0, 1, 0, 1),), 5, ((0, 0, 1, 0), (0, 0, 0, 1))]
>>> quotient_ring(U3, ((0, 1, 0, 0, 0, 0),))
raises Refused(('ideal',))
>>> [radical(F2), radical(S3), radical_sizes(U3), radical_sizes(C4), radical_sizes(N4), radical_sizes(K9)]
[(), ((1, 1, 1, 1, 1, 1),), (3, 1), (3, 2, 1), (3, 2, 1), ()]
>>> [[len(space) for space in trace_spaces(S3)], [len(space) for space in trace_spaces(C4)]]
[[6, 1, 1], [4, 4, 3]]
>>> [counted(S3, "units"), counted(S3, "nilpotent"), counted(S3, "idempotent"), nil_paper(S3, ((1, 1, 1, 1, 1, 1),))]
[12, 8, 16, ('power', 2)]
>>> [is_nil_paper(F2, ((0, 1, 0, 0),), ("stays", 0, (0, 0, 1, 0))), nil_paper(F2, ())]
[True, ('power', 1)]
>>> [socle(Ring.stairs(2, 2)), socle(Ring.stairs(2, 2), side="right")]
[((1, 0, 0), (0, 1, 0)), ((0, 1, 0), (0, 0, 1))]
>>> [is_idempotent(F2, (1, 1, 0, 0)), is_least_idempotent(F2, (1, 0, 0, 1)), is_parting(F2, ((1, 0, 0, 0), (0, 0, 0, 1))), len(parting(U3)), len(parting(S3))]
[True, False, True, 3, 3]
>>> [is_like_paper(F2, (1, 0, 0, 0), (0, 0, 0, 1), ((0, 1, 0, 0), (0, 0, 1, 0))), like_paper(U3, (1, 0, 0, 0, 0, 0), (0, 0, 0, 1, 0, 0)), is_idempotent(U3, led_up(U3, (1, 1, 0, 1, 0, 0)))]
[True, None, True]
>>> PAIR = ((1, 0, 0, 0), (0, 0, 0, 1))
>>> [is_leading_unit(F2, PAIR, PAIR[::-1], ((1, 0, 0, 1), (1, 0))), central_parting(S3), central_parting(K9)]
[True, ((0, 0, 0, 1, 1, 0), (1, 0, 0, 1, 1, 0)), ((1, 0),)]
>>> led_up(C4, (0, 1, 0, 1))
(0, 0, 0, 0)
>>> led_up(K9, (0, 1))
raises Refused(("open",))
>>> [kinds(F2), kinds(U3), kinds(S3), kinds(C4), kinds(K9), kinds(Ring.both(Ring.full(3, 2), K9))]
[((2, 1),), ((1, 1), (1, 1), (1, 1)), ((1, 1), (2, 1)), ((1, 1),), ((1, 2),), ((1, 2), (2, 1))]
>>> [[unit_number(ring), nilpotent_number(ring), idempotent_kinds(ring)] for ring in (F2, U3, S3, K9)]
[[6, 4, 3], [8, 8, 8], [12, 8, 6], [8, 1, 2]]
>>> [full_parts(K9), part_one(K9, ((1, 0), (0, 1))), is_part_paper(K9, ((1, 0), (0, 1)), ((((1, 0),),), (0, 1)))]
[(((1, 0), (0, 1)),), (1, 0), True]
>>> full_parts(U3)
raises Refused(('radical',))
>>> DIAGONAL = ((1, 0, 0, 0, 0, 0), (0, 0, 0, 1, 0, 0), (0, 0, 0, 0, 0, 1))
>>> [split_number(ring) for ring in (U3, C4, F2, S3, K9)], split_subring(C4), split_subring(K9)
([8, 1, 1, 1, 1], ((1, 0, 0, 0),), ((1, 0), (0, 1)))
>>> [is_split_subring(U3, DIAGONAL), is_split_subring(U3, ((1, 0, 0, 0, 0, 0),)), leading_nil(U3, DIAGONAL, DIAGONAL)]
[True, False, (0, 0, 0, 0, 0, 0)]
>>> LINE, HIGH = Room.own(N4), ((0, 0, 1, 0), (0, 0, 0, 1))
>>> [LINE.size, LINE.led_by((0, 1, 0, 2), (1, 1, 0, 0)), subroom_made(LINE, ((0, 0, 1, 2),)) == HIGH, str(LINE)]
[4, (0, 1, 1, 2), True, 'room of 4 vectors over a ring of size 4 modulo 3']
>>> [subroom(LINE, HIGH) == quotient_room(LINE, HIGH), subroom(LINE, HIGH).tables[1], room_killers(subroom(LINE, HIGH)) == HIGH]
[True, ((0, 1), (0, 0)), True]
>>> [vector_killers(LINE, (0, 0, 0, 1)), turned_room(LINE).tables[1][1], is_subroom(LINE, ((0, 1, 0, 0),)), Room.side_by_side(LINE, Room.nothing(N4)) == LINE]
[((0, 1, 0, 0), (0, 0, 1, 0), (0, 0, 0, 1)), (1, 0, 0, 0), False, True]
>>> Room(C4, (((1,),), ((1,),), ((1,),), ((0,),)))
raises Refused(('product', 1, 2))
>>> [len(least_rooms(F2)), least_rooms(F2)[0].size, sorted([room.size for room in least_rooms(S3)]), [room.size for room in least_rooms(U3)], least_rooms(K9)[0].size]
[1, 2, [1, 2], [1, 1, 1], 2]
>>> [list_of(Room.own(F2)), sorted(list_of(Room.own(U3))), list_of(Room.own(S3)), layers(Room.own(U3)), layers(Room.own(S3)), socle_layers(Room.own(N4))]
[(2,), [1, 2, 3], (2, 2), (3, 2, 1), (5, 1), (1, 1, 1, 1)]
>>> [room_paper(Room.own(F2))[0], room_paper(Room.own(K9))[0], is_room_paper(Room.own(K9), ("least", (0, 0), (1, 0), (1, 0), ((0, 1), (2, 0)))), is_room_paper(Room.own(N4), ("subroom", ((0, 0, 0, 1),)))]
['subroom', 'least', True, True]
>>> [radical_by_rooms(N4), list_of(Room.nothing(N4)), layers(Room.nothing(N4))]
[((0, 1, 0, 0), (0, 0, 1, 0), (0, 0, 0, 1)), (0,), ()]
>>> room_paper(Room.nothing(N4))
raises Refused(('nothing',))
>>> OWN, N = Room.own(F2), Room.own(N4)
>>> [map_number(OWN, OWN), [len(space) for space in parts(OWN)], split_paper(OWN)[0], split_paper(N)[0], len(parts(N)), self_ring(N).size]
[4, [2, 2], 'parts', 'whole', 1, 4]
>>> TWO, ONE = quotient_room(N, ((0, 0, 1, 0), (0, 0, 0, 1))), quotient_room(N, ((0, 1, 0, 0), (0, 0, 1, 0), (0, 0, 0, 1)))
>>> BOTH = Room.side_by_side(ONE, ONE)
>>> [alike_map(TWO, BOTH), times_in(ONE, BOTH), times_in(TWO, N), is_unlike_paper(TWO, BOTH, (ONE, 0, 2)), maps(ONE, TWO), maps(TWO, ONE)]
[None, 2, 0, True, ((0, 1),), ((1, 0),)]
>>> [is_split_paper(BOTH, ("parts", ((1, 0),), ((1, 1),))), is_split_paper(TWO, ("whole", ((0, 1, 0, 0),), ((1, 0), (0, 1)))), unlike_paper(ONE, ONE)]
[True, True, None]
>>> [sorted([room.size for room in free_rooms(U3)]), cartan(N4), cartan(C4), head_numbers(Room.own(N4)), sorted([sum(row) for row in cartan(S3)])]
[[1, 2, 3], ((4,),), ((4,),), (1,), [1, 2]]
>>> [blocks_of_rooms(U3), blocks_of_rooms(S3), free_sum(N4, (2,)).size, head_numbers(Room.own(F2))]
[((0, 1, 2),), ((0,), (1,)), 8, (2,)]
>>> SHORT = quotient_room(Room.own(N4), ((0, 0, 1, 0), (0, 0, 0, 1)))
>>> [cover(SHORT)[0], len(cover(SHORT)[1]), is_cover(SHORT, cover(SHORT)), is_cover(SHORT, ((1,), ((0, 0),) * 4)), is_cover(SHORT, ((2,), cover(SHORT)[1] * 2))]
[(1,), 4, True, False, False]
>>> free_sum(N4, (11,))
raises TooMany(40)
>>> SHORT = quotient_room(Room.own(N4), ((0, 0, 0, 1),))
>>> [SHORT.size, pulled(SHORT).size, pulled_numbers(SHORT, 3), pulled_length(SHORT), pulled_length(Room.own(N4)), pulled_length(Room.nothing(N4))]
[3, 1, ((1,), (1,), (1,), (1,)), ('again', 0, 2), ('ends', 1), ('ends', 0)]
>>> [[lift_number(SHORT, SHORT, step) for step in (0, 1, 2, 3)], lift_number(SHORT, Room.own(N4), 2), pulled_length(least_rooms(F2)[0])]
[[3, 1, 1, 1], 0, ('ends', 1)]
>>> POINT = least_rooms(C4)[0]
>>> [len(join_space(POINT, POINT)), plain_joins(POINT, POINT), lift_number(POINT, POINT, 1), pulled_length(POINT)]
[1, (), 1, ('again', 0, 2)]
>>> joined_room(POINT, POINT, join_space(POINT, POINT)[0]).tables[1]
((1, 1), (0, 1))
>>> [len(derivations(ring)) for ring in (F2, U3, N4, K9, C4)], [len(inner_derivations(ring)) for ring in (F2, U3, N4)]
([3, 5, 3, 0, 4], [3, 5, 0])
>>> [splitter(ring) is None for ring in (F2, K9, C4, N4)], is_splitter(Ring.both(Ring.full(2, 1), Ring.full(2, 1)), ((1, 0), (0, 1)))
([False, False, True, True], True)
>>> SHORT = Ring.of_poly(3, (0, 0, 1))
>>> [change_sizes(SHORT), change_sizes(Ring.of_poly(2, (0, 0, 1))), change_sizes(K9)]
[(4, 3), (4, 2), (4, 4)]
>>> BENT = (((0, 0), (0, 0)), ((0, 0), (1, 0)))
>>> [is_closed(SHORT, BENT), change_source(SHORT, BENT) is None, lift_ring(SHORT, BENT).size, change_of(SHORT, ((0, 0), (0, 1)))]
[True, True, 4, (((0, 0), (0, 0)), ((0, 0), (0, 0)))]
>>> web_ring(3, 1, ((0, 0),), (), 4) == N4
True
>>> web_paths(2, 3, ((0, 1), (1, 2)), (), 3)
((0, ()), (1, ()), (2, ()), (0, (0,)), (1, (1,)), (0, (0, 1)))
>>> SWAP = web_ring(2, 1, ((0, 0), (0, 0)), ({(0, 1): 1, (1, 0): 1},), 3)
>>> [SWAP.size, web_ring(2, 2, ((0, 1), (1, 0)), ({(0, 1): 1},), 4).size, is_basic(U3), is_basic(F2), basic_ring(F2).size]
[6, 5, True, False, 1]
>>> SOME = ((1, 0, 0, 0, 0, 0), (0, 0, 0, 1, 0, 0), (0, 0, 0, 0, 0, 1))
>>> arrow_numbers(U3, SOME)
((0, 1, 0), (0, 0, 1), (0, 0, 0))
>>> is_picture(U3, (SOME, ((0, 1, (0, 1, 0, 0, 0, 0)), (1, 2, (0, 0, 0, 0, 1, 0))), (), 3))
True
>>> picture(F2)
raises Refused(("basic",))
>>> [form_table(F2, (1, 0, 0, 1)), is_even_form(F2, (1, 0, 0, 1)), is_form(F2, (1, 0, 0, 0)), is_form(K9, (0, 1)), form_of(U3)]
[((1, 0, 0, 0), (0, 0, 1, 0), (0, 1, 0, 0), (0, 0, 0, 1)), True, False, True, None]
>>> [form_value(N4, (0, 0, 0, 1), (1, 2, 0, 2)), is_form(N4, (0, 0, 0, 1)), is_form(N4, (1, 0, 0, 0)), turn(N4, (0, 0, 0, 1)) == ((1, 0, 0, 0), (0, 1, 0, 0), (0, 0, 1, 0), (0, 0, 0, 1))]
[2, True, False, True]
>>> no_form_paper(U3)[1] != no_form_paper(U3)[2]
True
>>> turn(F2, (1, 0, 0, 0))
raises InvalidOperation
>>> [full_over(2, 1, 2) == F2, full_kind(full_over(2, 2, 1)), pair_number(2, 1, 2), pairs_counted(F2), pair_number(3, 2, 1), field_ring(3, 2).size]
[True, (1, 2), 88, 88, 81, 2]
>>> UP, DOWN = (0, 1, 0, 0), (0, 0, 1, 0)
>>> [is_leading_map(F2, (UP,), (DOWN,)), is_leading_unit_of(F2, (UP,), (DOWN,), (0, 1, 1, 0)), leading_unit_of(F2, (UP,), ((0, 0, 0, 0),)), is_leading_map(F2, (UP,), ((1, 0, 0, 0),))]
[True, True, None, False]
>>> [double_centralizer(F2, (UP,)), signed_sum(F2, (UP, DOWN)), signed_sum(F2, (UP, DOWN, F2.one, UP))]
[((1, 0, 0, 1), (0, 1, 0, 0)), (1, 0, 0, 1), (0, 0, 0, 0)]
>>> full_kind(U3)
raises Refused(('full',))
>>> V4 = Ring.of_moves(2, ((1, 0, 2, 3), (0, 1, 3, 2)))
>>> [is_line_ring(ring) for ring in (F2, U3, S3, C4, N4, V4)], [sorted(ladder_lengths(ring)) for ring in (F2, U3, S3, C4, N4)]
([True, True, True, True, True, False], [[1], [1, 2, 3], [1, 2], [4], [4]])
>>> [next_heads(C4), stretches(Room.own(C4)), stretches(room_of_stretch(N4, 0, 3)), stretches(Room.nothing(N4))]
[(0,), ((0, 4, 1),), ((0, 3, 1),), ()]
>>> [stretch_maps(N4, (0, 2), (0, 3)), stretch_maps(N4, (0, 4), (0, 4)), stretch_maps(C4, (0, 1), (0, 4))]
[2, 4, 1]
>>> ladder_lengths(V4)
raises Refused(("lines",))
>>> desk = Desk(U3)
>>> desk.do(("put", "a", Room.own(U3)), ("same", "b", "a"), ("above", "b", ((0, 1, 0, 0, 0, 0),)))
>>> [desk["a"].size, len(desk), desk.past, desk.is_true(("alike", "a", "b")), str(desk)]
[6, 2, 1, False, 'desk over a ring of size 6: 2 rooms, 0 sayings']
>>> [desk.say(("size", "a", 6)), desk.say(("maps", "a", "b", 5))]
[None, None]
>>> desk.do(("join", "c", "a", "a"), ("join", "c", "c", "a"))
raises Refused(("wide", 1))
>>> desk.do(("below", "a", ()))
raises Refused(("broken", ("size", "a", 6)))
>>> [write_space(3, 4, ((1, 0, 2, 0), (0, 1, 1, 0))), read_space(" space 2 3  101 "), read_space("space 5 2")]
['space 3 4 1020 0110', (2, 3, ((1, 0, 1),)), (5, 2, ())]
>>> [write_ring(K9), read_ring("ring 2  1 1").size, write_room(Room.own(Ring.of_poly(2, (0, 1))))]
['ring 3 2 10 01 01 20', 1, 'room 2 1 1 1 1']
>>> read_space("space 3 4 1020 0130")
raises ParseError(15)
"""


def names():
    """All names of the modules, as the examples use them."""
    known = {}
    for module in MODULES:
        known.update({name: value for name, value in vars(module).items() if not name.startswith("_")})
    return known


def told():
    """The pairs of what is called, and of the row below it, or None where nothing is told."""
    pairs = []
    for row in EXAMPLES.strip().split("\n"):
        if row.startswith(">>> "):
            pairs.append([row[4:], None])
        else:
            pairs[-1][1] = row
    return pairs


def outcome(source, known):
    """What a call returns, or the error that it raises."""
    try:
        return eval(source, known)
    except Exception as error:
        return error


class ExamplesTest(unittest.TestCase):
    def test_all(self):
        known = names()
        for source, row in told():
            with self.subTest(source=source):
                if row is None:
                    # What is done without a word of its result returns nothing.
                    exec(source, known)
                elif row.startswith("raises "):
                    expected, found = eval(row[len("raises "):], known), outcome(source, known)
                    if isinstance(expected, type):
                        self.assertIs(type(found), expected)
                    else:
                        self.assertIs(type(found), type(expected))
                        self.assertEqual(vars(found), vars(expected))
                else:
                    self.assertEqual(repr(outcome(source, known)), repr(eval(row, known)))

    def test_their_number(self):
        self.assertEqual(len([row for _, row in told() if row is not None]), 84)


if __name__ == "__main__":
    unittest.main()
