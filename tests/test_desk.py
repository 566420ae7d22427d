"""A desk of rooms [19.1] to [19.3]."""

import copy
import unittest

from tablerings.desk import desk as desk_module
from tablerings.desk.desk import Desk
from tablerings.errors import InvalidNumber, InvalidOperation, InvalidRing, NothingToUndo, Refused, TooMany, UnknownName
from tablerings.rings.rings import Ring
from tablerings.rooms.free import free_rooms
from tablerings.rooms.least import least_rooms
from tablerings.rooms.maps import alike_map, map_number
from tablerings.rooms.rooms import Room, quotient_room, rebased_room, room_killers
from tests.desk_samples import Chance, SlowDesk, is_deed, is_saying, names_in
from tests.room_samples import low_room_rings, rebased_by_chance, rooms_of, swap_ring, twin_arrows, unit_rows
from tests.samples import F2, K9, N4, PRIMES, S3, U3, junk, low_ring, turned


def line(prime, size):
    """A room of so many base vectors over the ring of size 1."""
    return Room(Ring.full(prime, 1), (unit_rows(size),))


def outcome(call, *values):
    """What a call returns, or what it raises and keeps."""
    try:
        return ("returned", call(*values))
    except (InvalidOperation, InvalidNumber, NothingToUndo, Refused, TooMany, UnknownName) as error:
        return (type(error), vars(error))


def state(desk):
    """All that can be seen of a desk."""
    return (desk.ring, desk.kept, desk.sayings, desk.past, len(desk), list(desk), str(desk))


class DeskTest(unittest.TestCase):
    def test_constants(self):
        self.assertEqual([desk_module.MAX_NAME, desk_module.MAX_SAID, desk_module.MAX_WIDE], [8, 20, 12])

    def test_without_rooms(self):
        for ring in (F2, U3, Ring.full(7, 1)):
            desk = Desk(ring)
            self.assertEqual(state(desk), (ring, {}, (), 0, 0, [], f"desk over a ring of size {ring.size}: 0 rooms, 0 sayings"))
            self.assertEqual([desk.do(), desk.past], [None, 0])
            self.assertTrue(desk == Desk(ring) and not desk != Desk(ring))
            with self.assertRaises(NothingToUndo) as caught:
                desk.undo()
            self.assertEqual(caught.exception.steps, 1)
            for value in junk():
                self.assertIs(value in desk, False)
                self.assertIs(desk == value, False)
                with self.assertRaises(UnknownName) as caught:
                    desk[value]
                self.assertIs(caught.exception.wanted, value)
        for value in junk()[:-6] + [None, Ring, Room.own(F2)]:
            if not isinstance(value, Ring):
                self.assertRaises(InvalidRing, Desk, value)

    def test_rooms_by_names(self):
        for prime in PRIMES:
            ring = Ring.stairs(prime, 2)
            own, point, desk = Room.own(ring), least_rooms(ring)[0], Desk(ring)
            self.assertIs(desk.do(("put", "zz", own), ("put", "a", point), ("put", "ab", own)), None)
            self.assertEqual([list(desk), list(desk.kept), len(desk), desk.past], [["a", "ab", "zz"], ["a", "ab", "zz"], 3, 1])
            self.assertEqual([desk["a"], desk["zz"], "a" in desk, "b" in desk], [point, own, True, False])
            self.assertEqual(str(desk), "desk over a ring of size 3: 3 rooms, 0 sayings")
            self.assertEqual([name for name in desk], list(desk.kept))
            kept = desk.kept
            kept["a"] = kept["b"] = own
            del kept["zz"]
            self.assertEqual([desk["a"], "b" in desk, "zz" in desk], [point, False, True])
            desk.do(("take", "ab"))
            self.assertEqual([list(desk), desk.past], [["a", "zz"], 2])
            with self.assertRaises(UnknownName) as caught:
                desk["ab"]
            self.assertEqual(caught.exception.wanted, "ab")

    def test_deeds(self):
        """[19.2]"""
        for prime in PRIMES:
            ring = Ring.stairs(prime, 2)
            own, desk = Room.own(ring), Desk(ring)
            low = ((0, 1, 0),)
            desk.do(("put", "a", own), ("same", "b", "a"), ("above", "b", low), ("same", "c", "a"), ("below", "c", ((0, prime - 1, 0),)),
                    ("join", "d", "b", "c"), ("join", "b", "b", "b"), ("same", "e", "a"), ("rebase", "e", ((1, 1, 0), (0, 1, 0), (0, 0, 1))))
            above = quotient_room(own, low)
            self.assertEqual(desk["b"], Room.side_by_side(above, above))
            self.assertEqual([desk["c"].size, desk["d"], desk["a"]], [1, Room.side_by_side(above, desk["c"]), own])
            self.assertEqual(desk["e"], rebased_room(own, ((1, 1, 0), (0, 1, 0), (0, 0, 1))))
            self.assertEqual(desk.past, 1)
            desk.do(("above", "a", ()), ("below", "e", ()))
            self.assertEqual([desk["a"], desk["e"], desk.past], [own, Room.nothing(ring), 2])
            desk.do(("above", "e", ((), ())), ("below", "e", ((),)))
            self.assertEqual([desk["e"].size, desk.past], [0, 2])

    def test_no_moves(self):
        """A call that changes nothing is no move: one thing and its contrary, equal rooms, deeds that lead back."""
        for prime in PRIMES:
            ring = Ring.stairs(prime, 2)
            own, desk = Room.own(ring), Desk(ring)
            desk.do(("put", "a", own), ("take", "a"))
            self.assertEqual([desk.past, len(desk)], [0, 0])
            desk.do(("put", "a", own))
            desk.do(("put", "a", Room.own(Ring.stairs(prime, 2))))
            desk.do(("same", "a", "a"), ("above", "a", ()), ("rebase", "a", unit_rows(3)), ("below", "a", unit_rows(3)))
            desk.do(("put", "b", own), ("take", "b"))
            desk.do(("take", "a"), ("put", "a", own))
            desk.do(("rebase", "a", ((0, 1, 0), (1, 0, 0), (0, 0, 1))), ("rebase", "a", ((0, 1, 0), (1, 0, 0), (0, 0, 1))))
            self.assertEqual(desk.past, 1)
            desk.say(("size", "a", 3))
            desk.say(("size", "a", 3))
            self.assertEqual([desk.past, desk.sayings], [2, (("size", "a", 3),)])
            # Behind the last deed alone the sayings are asked.
            desk.do(("below", "a", ()), ("put", "a", own))
            desk.do(("take", "a"), ("put", "a", own))
            self.assertEqual(desk.past, 2)
            desk.unsay(("size", "a", 3))
            self.assertEqual([desk.past, desk.sayings], [3, ()])

    def test_refused_deeds(self):
        for prime in PRIMES:
            ring = Ring.of_poly(prime, (0, 0, 1))
            own, desk = Room.own(ring), Desk(ring)
            twelve = Room.own(ring)
            while twelve.size < 12:
                twelve = Room.side_by_side(twelve, own)
            wide = Room.side_by_side(twelve, own)
            desk.do(("put", "a", own), ("put", "t", twelve), ("put", "n", Room.nothing(ring)))
            before = state(desk)
            cases = [
                ((("take", "x"),), UnknownName, "x"), ((("put", "b", own), ("take", "b"), ("take", "b")), UnknownName, "b"),
                ((("same", "x", "y"),), UnknownName, "y"), ((("same", "x", "x"),), UnknownName, "x"), ((("join", "x", "y", "z"),), UnknownName, "y"),
                ((("join", "x", "a", "z"),), UnknownName, "z"), ((("join", "z", "z", "a"),), UnknownName, "z"),
                ((("below", "x", ((1,),)),), UnknownName, "x"), ((("above", "x", ()),), UnknownName, "x"), ((("rebase", "x", ((0,),)),), UnknownName, "x"),
                ((("take", "a"), ("put", "w", wide), ("take", "a")), Refused, ("wide", 1)), ((("take", "x"), ("put", "w", wide)), UnknownName, "x"),
                ((("put", "w", wide),), Refused, ("wide", 0)), ((("same", "b", "a"), ("join", "c", "t", "a")), Refused, ("wide", 1)),
                ((("join", "c", "t", "n"), ("join", "c", "t", "t")), Refused, ("wide", 1)),
                ((("below", "a", ((1,),)),), Refused, ("width", 0)), ((("above", "a", ((1, 0, 0),)),), Refused, ("width", 0)),
                ((("above", "a", ((),)),), Refused, ("width", 0)), ((("below", "n", ((0,),)),), Refused, ("width", 0)),
                ((("rebase", "n", ((1,),)),), Refused, ("width", 0)), ((("rebase", "a", ((0,),)),), Refused, ("width", 0)),
                ((("rebase", "a", unit_rows(3)),), Refused, ("width", 0)), ((("rebase", "a", ((1, 1), (1, 1))),), Refused, ("singular", 0)),
                ((("same", "b", "a"), ("rebase", "b", ((0, 0), (0, 0)))), Refused, ("singular", 1)),
                ((("rebase", "a", ((1, 1), (1, 1))), ("take", "x")), Refused, ("singular", 0)),
            ]
            for deeds, error, kept in cases:
                with self.assertRaises(error) as caught:
                    desk.do(*deeds)
                self.assertEqual(caught.exception.wanted if error is UnknownName else caught.exception.reason, kept)
                self.assertEqual(state(desk), before)
                # What is no deed comes ahead of all of these.
                self.assertRaises(InvalidOperation, desk.do, *deeds, ("take",))
                self.assertEqual(state(desk), before)

    def wrong_deeds(self, ring):
        """Values that are no deeds over a ring."""
        prime, own = ring.prime, Room.own(ring)
        far = Room.own(Ring.full(2 if prime > 2 else 3, 1))
        row = (0,) * 13
        values = junk() + [("put", "a"), ("put", "a", own, own), ["put", "a", own], ("put", "a", far), ("put", "a", ring), ("put", "a", None),
                           ("put", "A", own), ("put", "", own), ("put", "abcdefghi", own), ("put", "a b", own), ("put", "a1", own), ("put", 1, own),
                           ("put", ("a",), own), ("put", None, own), ("Put", "a", own), ("puts", "a", own), (None, "a", own), (("put",), "a", own),
                           ("take",), ("take", "a", "a"), ("take", "\u00e9"), ("take", "a\n"), ("same", "a"), ("same", "a", "B"), ("same", "_", "a"),
                           ("join", "a", "a"), ("join", "a", "a", "a", "a"), ("join", "a", "a", None), ("join", "a", 0, "a"),
                           ("join", "A", "a", "a"), ("same", 1, "a"), ("", "a"), (),
                           ("undo", "a"), ("size", "a", 1)]
        for word in ("below", "above"):
            values += [(word, "a"), (word, "a", None), (word, "a", [(1,)]), (word, "a", (1,)), (word, "a", ((prime,),)), (word, "a", ((-1,),)),
                       (word, "a", ((True,),)), (word, "a", ((1,), (1, 0))), (word, "a", (row,)), (word, "a", ((1,),) * 13), (word, "a", ((1,), [1])),
                       (word, "a", ((),) * 13), (word, "A", ()), (word, "a", ((1,),), 0), (word, "a", "1"), (word, "a", ((10 ** 60,),)), (word, "a", {})]
        values += [("rebase", "a", ()), ("rebase", "a", ((1, 0),)), ("rebase", "a", ((1,), (0,))), ("rebase", "a", unit_rows(13)),
                   ("rebase", "a", ((prime,),)), ("rebase", "a", ((False,),)), ("rebase", "a", [(1,)]), ("rebase", "a", ([1],)), ("rebase", "a", None),
                   ("rebase", "a", ((),)), ("rebase", "a", ((1, 0), (0, 1), (0, 0))), ("rebase", 0, ((1,),)), ("rebase", "a")]
        return values

    def test_wrong_deeds(self):
        for prime in PRIMES:
            ring = Ring.of_poly(prime, (0, 0, 1))
            desk = Desk(ring)
            desk.do(("put", "a", line_room(ring)))
            desk.say(("size", "a", 2))
            before = state(desk)
            for value in self.wrong_deeds(ring):
                self.assertFalse(is_deed(ring, value))
                for deeds in ((value,), (("take", "x"), value), (value, ("take", "x")), (("take", "a"), value), (value, None)):
                    self.assertRaises(InvalidOperation, desk.do, *deeds)
                    self.assertEqual(state(desk), before)
            right = [("above", "a", ((0, 0),) * 12), ("below", "a", unit_rows(2) * 6), ("put", "abcdefgh", Room.nothing(ring)), ("rebase", "a", unit_rows(2))]
            self.assertIs(desk.do(*right), None)


def line_room(ring):
    """The ring as a room over itself."""
    return Room.own(ring)


class SayingTest(unittest.TestCase):
    def test_sayings(self):
        """[19.1]"""
        for prime in PRIMES:
            ring = Ring.stairs(prime, 2)
            point, other = least_rooms(ring)
            desk = Desk(ring)
            desk.do(("put", "p", point), ("put", "q", other), ("put", "o", Room.own(ring)), ("put", "n", Room.nothing(ring)),
                    ("put", "r", rebased_by_chance(Room.own(ring), 3)), ("join", "b", "p", "q"))
            true = [("size", "p", 1), ("size", "n", 0), ("size", "o", 3), ("least", "p"), ("least", "q"), ("unsplit", "p"), ("alike", "o", "r"),
                    ("alike", "p", "p"), ("alike", "n", "n"), ("unlike", "p", "q"), ("unlike", "n", "p"), ("unlike", "b", "o"), ("maps", "p", "q", 0),
                    ("maps", "p", "p", 1), ("maps", "n", "o", 0), ("maps", "o", "n", 0), ("maps", "o", "r", 3), ("killed", "n", ring.one),
                    ("killed", "b", (0, 1, 0)), ("killed", "o", (0, 0, 0))]
            false = [("size", "p", 0), ("size", "p", -1), ("least", "n"), ("unsplit", "n"), ("least", "b"), ("unsplit", "b"), ("unsplit", "o"), ("least", "o"),
                     ("alike", "p", "q"), ("alike", "n", "p"), ("unlike", "o", "r"), ("unlike", "n", "n"), ("unlike", "p", "p"), ("maps", "p", "p", 2),
                     ("maps", "p", "p", -1), ("maps", "p", "p", 10 ** 60 - 1), ("killed", "p", ring.one), ("killed", "o", (0, 1, 0))]
            before = state(desk)
            for saying in true:
                self.assertIs(desk.is_true(saying), True, saying)
            for saying in false:
                self.assertIs(desk.is_true(saying), False, saying)
                with self.assertRaises(Refused) as caught:
                    desk.say(saying)
                self.assertEqual(caught.exception.reason, ("false",))
            self.assertEqual(state(desk), before)
            self.assertEqual(len(true), 20)
            for count, saying in enumerate(true):
                self.assertEqual([desk.say(saying), desk.past, len(desk.sayings)], [None, 2 + count, 1 + count])
            self.assertEqual([desk.sayings, str(desk)], [tuple(true), "desk over a ring of size 3: 6 rooms, 20 sayings"])
            self.check_twenty(desk, true)

    def check_twenty(self, desk, true):
        """With twenty sayings one more is refused, but not one that is kept, and ahead of what is false."""
        for saying in (("size", "q", 1), ("size", "q", 7)):
            with self.assertRaises(TooMany) as caught:
                desk.say(saying)
            self.assertEqual(caught.exception.most, 20)
        self.assertRaises(UnknownName, desk.say, ("size", "x", 1))
        self.assertRaises(InvalidOperation, desk.say, ("size", "x"))
        before = state(desk)
        for saying in true:
            desk.say(saying)
        self.assertEqual(state(desk), before)
        self.assertIs(desk.unsay(true[3]), None)
        self.assertEqual([desk.sayings, desk.past], [tuple(true[:3] + true[4:]), before[3] + 1])
        desk.say(("size", "q", 1))
        self.assertEqual(desk.sayings, tuple(true[:3] + true[4:]) + (("size", "q", 1),))
        self.assertRaises(TooMany, desk.say, true[3])

    def test_order_of_names(self):
        desk = Desk(U3)
        desk.do(("put", "b", Room.own(U3)))
        for saying, name in ((("alike", "a", "c"), "a"), (("alike", "b", "c"), "c"), (("unlike", "c", "b"), "c"), (("maps", "c", "a", 1), "c"),
                             (("size", "d", 6), "d"), (("killed", "d", U3.one), "d"), (("least", "d"), "d"), (("unsplit", "d"), "d")):
            with self.assertRaises(UnknownName) as caught:
                desk.say(saying)
            self.assertEqual(caught.exception.wanted, name)
            self.assertIs(desk.is_true(saying), False)
            with self.assertRaises(UnknownName) as caught:
                desk.unsay(saying)
            self.assertIs(caught.exception.wanted, saying)

    def wrong_sayings(self, ring):
        """Values that are no sayings over a ring."""
        right = (0,) * ring.size
        return junk() + [("size", "a"), ("size", "a", 1, 1), ["size", "a", 1], ("size", "a", True), ("size", "a", "1"), ("size", "a", None),
                         ("size", "a", 10 ** 60), ("size", "a", -10 ** 60), ("size", "a", (1,)), ("Size", "a", 1), ("size", "A", 1), ("size", "", 1),
                         ("size", "abcdefghi", 1), ("size", 1, 1), ("least",), ("least", "a", "a"), ("least", None), ("unsplit", "a1"), ("unsplit",),
                         ("alike", "a"), ("alike", "a", "a", "a"), ("alike", "a", 1), ("unlike", "a", "A"), ("unlike", ("a",), "a"), ("maps", "a", "a"),
                         ("maps", "a", "a", "1"), ("maps", "a", 1, "a"), ("maps", "a", "a", False), ("maps", "a", "a", 1, 1), ("killed", "a"),
                         ("killed", "a", 0), ("killed", "a", right[1:]), ("killed", "a", right + (0,)), ("killed", "a", list(right)),
                         ("killed", "a", (False,) + right[1:]), ("killed", "a", (ring.prime,) + right[1:]), ("killed", "a", right, right), (), ("",),
                         (None, "a"), (("size",), "a", 1), ("put", "a", Room.own(ring)), ("take", "a")]

    def test_wrong_sayings(self):
        for prime in PRIMES:
            ring = Ring.of_poly(prime, (0, 0, 1))
            desk = Desk(ring)
            desk.do(("put", "a", Room(ring, (((1,),), ((0,),)))))
            desk.say(("size", "a", 1))
            desk.say(("maps", "a", "a", 1))
            desk.say(("killed", "a", (0, 1)))
            desk.say(("killed", "a", (0, 0)))
            before = state(desk)
            for value in self.wrong_sayings(ring):
                self.assertFalse(is_saying(ring, value))
                self.assertIs(desk.is_true(value), False)
                self.assertRaises(InvalidOperation, desk.say, value)
                with self.assertRaises(UnknownName) as caught:
                    desk.unsay(value)
                self.assertIs(caught.exception.wanted, value)
            for value in (("killed", "a", (0, True)), ("killed", "a", (False, 1)), ("size", "a", True), ("maps", "a", "a", True)):
                self.assertRaises(UnknownName, desk.unsay, value)
                self.assertIs(desk.is_true(value), False)
            self.assertEqual(state(desk), before)
            self.assertIs(desk.is_true(("size", "a", 10 ** 99)), False)

    def test_too_many_self_maps(self):
        """Sayings of rooms with more than forty independent self maps are false, but those that do not ask for them."""
        for prime in PRIMES:
            ring = Ring.full(prime, 1)
            desk = Desk(ring)
            desk.do(("put", "a", line(prime, 7)), ("put", "b", line(prime, 7)), ("put", "c", line(prime, 6)), ("put", "d", line(prime, 12)),
                    ("put", "e", line(prime, 6)))
            for saying in (("alike", "a", "b"), ("unlike", "a", "b"), ("unlike", "a", "c"), ("unlike", "c", "a"), ("alike", "a", "a"), ("unsplit", "a"),
                           ("alike", "d", "d"), ("unlike", "d", "c"), ("least", "a"), ("unlike", "c", "e")):
                self.assertIs(desk.is_true(saying), False)
            for saying in (("alike", "c", "e"), ("maps", "a", "d", 84), ("maps", "d", "d", 144), ("size", "d", 12), ("killed", "d", (0,))):
                self.assertIs(desk.is_true(saying), True)
                desk.say(saying)

    def test_just_forty_self_maps(self):
        """Forty are let, forty-one are not; so many can be those of an unsplittable room, too."""
        for prime in PRIMES:
            field = Ring.full(prime, 1)
            ring = Ring.both(field, field)
            one, other = least_rooms(ring)
            desk = Desk(ring)
            desk.do(("put", "a", one), ("put", "b", other), ("join", "c", "a", "a"), ("join", "c", "c", "a"), ("join", "d", "c", "c"),
                    ("join", "e", "b", "b"), ("join", "d", "d", "e"), ("join", "c", "c", "a"), ("join", "e", "e", "e"), ("join", "e", "e", "b"),
                    ("join", "c", "c", "e"))
            self.assertEqual([map_number(desk[name], desk[name]) for name in "dc"], [40, 41])
            self.assertEqual([desk.is_true(("alike", name, name)) for name in "dc"], [True, False])
            self.assertEqual([desk.is_true(("unlike", *names)) for names in ("da", "ad", "ca", "ac")], [True, True, False, False])
            low = low_ring(prime, 3)
            steps = unit_rows(12)[6:] + ((0,) * 12,) * 6
            slow = unit_rows(12)[7:] + ((0,) * 12,) * 7
            room = Room(low, (unit_rows(12), steps, slow))
            desk = Desk(low)
            desk.do(("put", "a", room), ("put", "b", least_rooms(low)[0]), ("put", "c", Room.own(low)))
            self.assertEqual([map_number(room, room), desk.is_true(("unsplit", "a"))], [42, False])
            self.assertEqual([desk.is_true(("unsplit", name)) for name in "bc"], [True, True])

    def test_broken_and_taken(self):
        for prime in PRIMES:
            ring = Ring.stairs(prime, 2)
            own, desk = Room.own(ring), Desk(ring)
            desk.do(("put", "a", own), ("put", "b", own))
            first, second, third = ("alike", "a", "b"), ("size", "b", 3), ("size", "a", 3)
            for saying in (first, second, third):
                desk.say(saying)
            before = state(desk)
            cases = [((("take", "b"),), ("taken", first)), ((("take", "a"), ("below", "b", ())), ("taken", first)),
                     ((("below", "a", ()),), ("broken", first)), ((("below", "a", ()), ("below", "b", ())), ("broken", second)),
                     ((("below", "b", ()), ("take", "a")), ("taken", first)), ((("put", "b", Room.nothing(ring)),), ("broken", first))]
            for deeds, reason in cases:
                with self.assertRaises(Refused) as caught:
                    desk.do(*deeds)
                self.assertEqual(caught.exception.reason, reason)
                self.assertEqual(state(desk), before)
            desk.unsay(first)
            with self.assertRaises(Refused) as caught:
                desk.do(("below", "b", ()), ("take", "a"))
            self.assertEqual(caught.exception.reason, ("taken", third))
            desk.do(("rebase", "a", ((1, 1, 0), (0, 1, 0), (0, 0, 1))), ("put", "b", rebased_by_chance(own, 5)))
            self.assertEqual(desk.past, before[3] + 2)


class UndoTest(unittest.TestCase):
    def made(self, ring, seed, count):
        """A desk with some moves, and all its states."""
        chance, slow, desk = Chance(ring, seed), SlowDesk(ring), Desk(ring)
        states = [state(desk)]
        while desk.past < count:
            name, value = ("do", chance.deed(slow)) if chance.chance.random() < 0.6 else ("say", chance.saying(slow))
            self.assertEqual(outcome(getattr(desk, name), value), outcome(getattr(slow, name), value))
            if desk.past == len(states):
                states.append(state(desk))
        return desk, states

    def test_one_by_one_and_all_at_once(self):
        for prime in PRIMES:
            for ring in low_room_rings(prime)[:4]:
                desk, states = self.made(ring, prime, 8)
                twin = desk.twin()
                for before in states[-2::-1]:
                    self.assertIs(desk.undo(), None)
                    self.assertEqual(state(desk), before)
                self.assertRaises(NothingToUndo, desk.undo)
                self.assertEqual(state(twin), states[-1])
                for steps in (9, 10 ** 60 - 1):
                    with self.assertRaises(NothingToUndo) as caught:
                        twin.undo(steps)
                    self.assertEqual(caught.exception.steps, steps)
                twin.undo(3)
                self.assertEqual(state(twin), states[-4])
                twin.undo(steps=5)
                self.assertEqual(state(twin), states[0])

    def test_wrong_steps(self):
        desk = Desk(F2)
        desk.do(("put", "a", Room.own(F2)))
        for steps in junk() + [0, -1, 10 ** 60, "1", (1,), None]:
            with self.assertRaises(InvalidNumber) as caught:
                desk.undo(steps)
            self.assertIs(caught.exception.given, steps)
        self.assertEqual(desk.past, 1)

    def test_undone_moves_are_gone(self):
        ring = Ring.stairs(3, 2)
        own, desk = Room.own(ring), Desk(ring)
        desk.do(("put", "a", own))
        desk.say(("size", "a", 3))
        desk.unsay(("size", "a", 3))
        desk.do(("below", "a", ()))
        self.assertEqual(desk.past, 4)
        desk.undo(2)
        self.assertEqual([desk.past, desk.sayings, desk["a"]], [2, (("size", "a", 3),), own])
        self.assertRaises(Refused, desk.do, ("below", "a", ()))
        desk.undo(2)
        self.assertEqual([desk.past, desk == Desk(ring)], [0, True])
        desk.do(("put", "b", own))
        self.assertEqual(desk.past, 1)

    def test_twins_go_apart(self):
        for prime in PRIMES:
            for ring in low_room_rings(prime)[:3]:
                desk, states = self.made(ring, prime + 7, 5)
                twin = desk.twin()
                self.assertTrue(twin == desk and twin.past == desk.past and twin.ring == ring)
                self.assertIsInstance(twin, Desk)
                twin.undo(2)
                self.assertEqual([state(desk), state(twin)], [states[-1], states[-3]])
                twin.do(("put", "twin", Room.own(ring)))
                self.assertEqual([state(desk), "twin" in desk, "twin" in twin], [states[-1], False, True])
                third = twin.twin()
                desk.undo(5)
                self.assertEqual([state(desk), third == twin, third == desk], [states[0], True, False])


class EqualTest(unittest.TestCase):
    def test_equal(self):
        ring = Ring.stairs(2, 2)
        one, other = Desk(ring), Desk(Ring.stairs(2, 2))
        one.do(("put", "a", Room.own(ring)))
        self.assertFalse(one == other)
        other.do(("put", "b", Room.own(ring)))
        self.assertTrue(one != other)
        other.do(("same", "a", "b"), ("take", "b"))
        self.assertTrue(one == other and one.past != other.past)
        one.say(("size", "a", 3))
        one.say(("maps", "a", "a", 3))
        self.assertFalse(one == other)
        other.say(("maps", "a", "a", 3))
        other.say(("size", "a", 3))
        self.assertFalse(one == other)
        other.unsay(("maps", "a", "a", 3))
        other.say(("maps", "a", "a", 3))
        self.assertTrue(one == other)
        self.assertFalse(Desk(F2) == Desk(K9))
        for value in (None, 0, "desk", {}, {"a": Room.own(ring)}, [], ring, Room.own(ring), one.kept):
            self.assertIs(one == value, False)
            self.assertIs(one != value, True)

    def test_names(self):
        desk = Desk(F2)
        desk.do(("put", "a", Room.own(F2)))
        for value in junk() + ["b", "A", "", ("a",), ["a"], None, "aa", {"a": 1}, desk]:
            self.assertIs(value in desk, False)
            with self.assertRaises(UnknownName) as caught:
                desk[value]
            self.assertIs(caught.exception.wanted, value)
        self.assertIs("a" in desk, True)

    def test_properties_are_not_set(self):
        desk = Desk(F2)
        for name in ("ring", "kept", "sayings", "past"):
            with self.assertRaises(AttributeError):
                setattr(desk, name, 1)

    def test_deeds_while_iterating(self):
        desk = Desk(F2)
        desk.do(*[("put", name, Room.own(F2)) for name in "dbca"])
        seen = []
        for name in desk:
            seen.append(name)
            desk.do(("take", name))
        self.assertEqual([seen, len(desk)], [["a", "b", "c", "d"], 0])

    def test_copies(self):
        desk = Desk(F2)
        desk.do(("put", "a", Room.own(F2)))
        other = copy.deepcopy(desk)
        self.assertEqual([other, other.past], [desk, 1])


class ChanceTest(unittest.TestCase):
    """[19.2], [19.3]: a desk does just what the slow desk does, call by call."""

    def rings(self, prime):
        found = [Ring.full(prime, 1), Ring.stairs(prime, 2), Ring.of_poly(prime, (0, 0, 1)), Ring.full(prime, 2), low_ring(prime, 3), swap_ring(prime)]
        return found + turned(found[1:], prime) + [twin_arrows(prime)]

    def test_calls(self):
        seen = {}
        for prime in PRIMES:
            for ring in self.rings(prime):
                chance, slow, desk = Chance(ring, prime + ring.size), SlowDesk(ring), Desk(ring)
                for step in range(80):
                    name, values = self.call(chance, slow, desk, step)
                    before = state(desk)
                    one, other = outcome(getattr(desk, name), *values), outcome(getattr(slow, name), *values)
                    self.assertEqual(one, other, (name, values))
                    if one[0] != "returned":
                        self.assertEqual(state(desk), before)
                    self.assertEqual([desk.kept, desk.sayings, desk.past], [slow.rooms, tuple(slow.said), len(slow.moves)])
                    self.assertEqual(list(desk), sorted(slow.rooms))
                    key = one[1]["reason"][0] if one[0] is Refused else str(one[0])
                    seen[key] = seen.get(key, 0) + 1
                    if step % 5 == 0:
                        self.assertTrue(all(desk.is_true(saying) for saying in desk.sayings))
        for key in ("false", "broken", "taken", "width", "singular", "wide"):
            self.assertGreater(seen.get(key, 0), 10, seen)

    def call(self, chance, slow, desk, step):
        """The name of a method and what is passed to it."""
        number = chance.chance.random()
        if step == 0:
            return "do", [("put", name, chance.chance.choice(chance.rooms)) for name in ("a", "b", "c")]
        if number < 0.5:
            return "do", [chance.deed(slow) for _ in range(chance.chance.choice((1, 1, 2, 3)))]
        if number < 0.75:
            return "say", [chance.saying(slow)]
        if number < 0.85:
            return "is_true", [chance.saying(slow)]
        if number < 0.95:
            return "unsay", [chance.chance.choice(desk.sayings)] if desk.sayings else [("least", "a")]
        return "undo", [chance.chance.choice((1, 1, 2, 3))]


class PromiseTest(unittest.TestCase):
    """[19.3]"""

    def test_rebase_and_alike_rooms(self):
        for prime in PRIMES:
            for ring in low_room_rings(prime):
                for seed, room in enumerate(rooms_of(ring, 5)[1:6]):
                    desk = Desk(ring)
                    desk.do(("put", "a", room), ("put", "b", Room.own(ring)))
                    for saying in (("size", "a", room.size), ("least", "a"), ("unsplit", "a"), ("alike", "a", "b"), ("unlike", "a", "b"),
                                   ("killed", "a", (0,) * ring.size)) + tuple(("killed", "a", row) for row in room_killers(room)[:2]):
                        outcome(desk.say, saying)
                    other = rebased_by_chance(room, seed)
                    if room.size:
                        desk.do(("rebase", "a", unit_rows(room.size)[::-1]))
                    self.assertIsNotNone(alike_map(room, other))
                    desk.do(("put", "a", other))
                    self.assertTrue(all(desk.is_true(saying) for saying in desk.sayings))

    def test_joining_nothing(self):
        for prime in PRIMES:
            for ring in low_room_rings(prime)[::2]:
                for room in rooms_of(ring, 5)[1:5]:
                    desk = Desk(ring)
                    desk.do(("put", "a", room), ("put", "n", Room.nothing(ring)), ("join", "b", "a", "n"), ("join", "c", "n", "a"))
                    self.assertIs(desk.is_true(("alike", "a", "b")), True)
                    self.assertIs(desk.is_true(("alike", "a", "c")), True)

    def test_cuts_break_no_killed(self):
        for prime in PRIMES:
            for ring in low_room_rings(prime):
                for seed, room in enumerate(rooms_of(ring, 4)[1:8]):
                    desk, chance = Desk(ring), Chance(ring, seed)
                    desk.do(("put", "a", room))
                    for row in room_killers(room):
                        desk.say(("killed", "a", row))
                    for word in ("below", "above"):
                        vectors = tuple(chance.row(desk["a"].size) for _ in range(2))
                        self.assertIs(desk.do((word, "a", vectors)), None)
                    self.assertEqual(len(desk.sayings), len(room_killers(room)))

    def test_free_and_great_rings(self):
        for ring in (S3, N4, U3, K9):
            desk = Desk(ring)
            for at, room in enumerate(free_rooms(ring)):
                desk.do(("put", "abcdefgh"[at], room))
            self.assertEqual([len(desk), desk.past], [len(free_rooms(ring))] * 2)
            self.assertEqual(names_in(("maps", "a", "b", 1)), ("a", "b"))
            self.assertTrue(all(desk.is_true(("unsplit", name)) for name in desk))


if __name__ == "__main__":
    unittest.main()
