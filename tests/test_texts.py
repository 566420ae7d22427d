"""Texts [20.1] to [20.3]."""

import random
import unittest

from tablerings.base.spaces import is_space, space_of
from tablerings.errors import InvalidRing, InvalidSpace, ParseError, Refused
from tablerings.rings.rings import Ring, ring_fault
from tablerings.rooms.rooms import Room
from tablerings.text import texts
from tablerings.text.texts import read_ring, read_room, read_space, write_ring, write_room, write_space
from tests.room_samples import rooms_of, unit_rows
from tests.samples import F2, PRIMES, all_rings, great_rings, junk, plain_rings, some_rows, turned


def pieces_of(text):
    """The pieces of a text with the index at which each begins, character by character."""
    found = []
    for at, letter in enumerate(text):
        if letter != " ":
            if at and text[at - 1] != " ":
                found[-1] = (found[-1][0], found[-1][1] + letter)
            else:
                found.append((at, letter))
    return found


def is_number(piece, numbers):
    """Whether a piece tells one of some numbers, in decimal digits without zeros ahead."""
    return piece in [str(number) for number in numbers]


def is_row_piece(piece, prime, width):
    """Whether a piece tells a row of the width."""
    return len(piece) == width and all("0" <= digit <= "9" and int(digit) < prime for digit in piece)


def parsed(kind, text):
    """What a text of a kind tells, or ("spot", index), by the document's words."""
    if type(text) is not str or len(text) > 20000:
        return ("spot", None)
    told = pieces_of(text) + [(len(text), None)]
    at, numbers, rows = 0, [], []

    def take(right):
        nonlocal at
        spot, piece = told[at]
        if piece is None or not right(piece):
            raise ParseError(spot)
        at += 1
        return piece

    try:
        take(lambda piece: piece == kind)
        prime = int(take(lambda piece: is_number(piece, (2, 3, 5, 7))))
        size = int(take(lambda piece: is_number(piece, range(1, 151 if kind == "space" else 10))))
        counts = [(size, size * size)]
        if kind == "space":
            while told[at][1] is not None:
                rows.append(take(lambda piece: is_row_piece(piece, prime, size)))
            return ("told", prime, size, [tuple(map(int, row)) for row in rows])
        for width, count in counts:
            rows += [take(lambda piece: is_row_piece(piece, prime, width)) for _ in range(count)]
        if kind == "room":
            width = int(take(lambda piece: is_number(piece, range(41))))
            numbers.append(width)
            rows += [take(lambda piece: is_row_piece(piece, prime, width)) for _ in range(size * width)]
        if told[at][1] is not None:
            raise ParseError(told[at][0])
    except ParseError as error:
        return ("spot", error.spot)
    return ("told", prime, size, [tuple(map(int, row)) for row in rows], *numbers)


def squares(rows, size):
    """Tables of a size, one behind the other."""
    return tuple(tuple(rows[at:at + size]) for at in range(0, len(rows), size)) if size else ()


def spaces(prime):
    """Spaces of many widths, with the width."""
    found = [(1, ()), (1, ((1,),)), (150, ()), (150, unit_rows(150)[:3]), (7, unit_rows(7))]
    for width in (2, 3, 5, 9, 40):
        found += [(width, space_of(prime, width, tuple(some_rows(prime, width, count, count + width)))) for count in (1, 2, 4)]
    return found


def spread(text, chance):
    """The text with any number of blanks at each place where some can stand."""
    gaps = [" " * chance.choice((1, 1, 2, 5)) for _ in text.split(" ")]
    return " " * chance.randrange(3) + "".join(piece + gap for piece, gap in zip(text.split(" "), gaps)) + " " * chance.randrange(3)


def bent(text, chance):
    """The text with one step that may make it wrong."""
    at = chance.randrange(len(text) + 1)
    pieces = text.split(" ")
    place = chance.randrange(len(pieces))
    return chance.choice((
        text[:at] + text[at + 1:], text[:at] + chance.choice("0123456789 a-\t\n_+.") + text[at:], text[:at] + chance.choice("0123456 ") + text[at + 1:],
        text[:at], text[at:], " ".join(pieces[:place] + pieces[place + 1:]), " ".join(pieces[:place] + pieces[place:place + 1] + pieces[place:]),
        " ".join(pieces[:place] + ["0" + pieces[place]] + pieces[place + 1:]), text + " " + pieces[-1], text + " 0", text.upper(), text + "  ",
        " ".join(pieces[:place] + [pieces[place - 1]] + pieces[place + 1:]), text.replace(" ", "\t", 1), text.replace("2", "4", 1)))


class WriteTest(unittest.TestCase):
    def test_constants(self):
        self.assertEqual(texts.MAX_TEXT, 20000)

    def test_spaces(self):
        """[20.1], [20.2]"""
        for prime in PRIMES:
            for width, space in spaces(prime):
                text = write_space(prime, width, space)
                rows = "".join(" " + "".join(map(str, row)) for row in space)
                self.assertEqual(text, f"space {prime} {width}{rows}")
                self.assertEqual(read_space(text), (prime, width, space))

    def test_rings_and_rooms(self):
        for prime in PRIMES:
            for ring in all_rings(prime) + great_rings(prime):
                text = write_ring(ring)
                rows = " ".join("".join(map(str, row)) for products in ring.table for row in products)
                self.assertEqual(text, f"ring {prime} {ring.size} {rows}")
                found = read_ring(text)
                self.assertEqual([found, found.one], [ring, ring.one])
                for room in rooms_of(ring, 40)[::3]:
                    more = "".join(" " + "".join(map(str, row)) for table in room.tables for row in table)
                    told = write_room(room)
                    self.assertEqual(told, f"room {prime} {ring.size} {rows} {room.size}{more}")
                    self.assertEqual(read_room(told), room)

    def test_the_greatest(self):
        """The longest text of a room can be read; longer spaces can be written alone."""
        ring = Ring.of_poly(7, (0,) * 9 + (1,))
        room = Room.side_by_side(Room.own(ring), Room.own(ring))
        room = Room.side_by_side(room, room)
        room = Room.side_by_side(room, Room(ring, (unit_rows(4),) + (((0,) * 4,) * 4,) * 8))
        text = write_room(room)
        self.assertEqual([room.size, len(text) <= 15600, read_room(text)], [40, True, room])
        whole = unit_rows(150)
        self.assertGreater(len(write_space(2, 150, whole)), 20000)
        self.assert_spot(read_space, write_space(2, 150, whole), None)
        low = unit_rows(150)[:132]
        text = write_space(2, 150, low)
        self.assertEqual(read_space(text + " " * (20000 - len(text))), (2, 150, low))
        self.assert_spot(read_space, text + " " * (20001 - len(text)), None)

    def assert_spot(self, call, text, spot):
        with self.assertRaises(ParseError) as caught:
            call(text)
        self.assertEqual(caught.exception.spot, spot)
        self.assertIs(type(caught.exception.spot), type(spot))


class ReadTest(unittest.TestCase):
    def check(self, kind, text):
        """A text is read, or refused, as the document's words tell; what is told of it."""
        call, told = {"space": read_space, "ring": read_ring, "room": read_room}[kind], parsed(kind, text)
        try:
            found = call(text)
        except ParseError as error:
            self.assertEqual(("spot", error.spot), told, text)
            return "spot"
        except (InvalidSpace, InvalidRing, Refused) as error:
            self.assertEqual(told[0], "told", text)
            self.assert_refused(kind, told, error)
            return "refused"
        self.assertEqual(told[0], "told", text)
        if kind == "space":
            self.assertEqual(found, told[1:3] + (tuple(told[3]),))
            written = write_space(*found)
        else:
            size = told[2]
            ring = found if kind == "ring" else found.ring
            self.assertEqual(ring, Ring(told[1], squares(told[3][:size * size], size)))
            if kind == "room":
                self.assertEqual(found, Room(ring, squares(told[3][size * size:], told[4]) if told[4] else ((),) * size))
            written = write_ring(found) if kind == "ring" else write_room(found)
        # What is read is written with one blank between two pieces, and none at the ends.
        self.assertEqual(written, " ".join(piece for _, piece in pieces_of(text)))
        return "read"

    def assert_refused(self, kind, told, error):
        prime, size, rows = told[1:4]
        if kind == "space":
            self.assertIs(type(error), InvalidSpace)
            self.assertFalse(is_space(prime, size, tuple(rows)))
            return
        table = squares(rows[:size * size], size)
        if ring_fault(prime, table) is not None:
            self.assertIs(type(error), InvalidRing)
            return
        self.assertEqual([kind, type(error)], ["room", Refused])
        with self.assertRaises(Refused) as caught:
            Room(Ring(prime, table), squares(rows[size * size:], told[4]))
        self.assertEqual(caught.exception.reason, error.reason)

    def samples(self, prime):
        """Pairs of a kind and of a text that can be read."""
        found = [("space", write_space(prime, width, space)) for width, space in spaces(prime) if width <= 9]
        rings = plain_rings(prime)[::2] + turned(plain_rings(prime)[1:12:3], 3)
        found += [("ring", write_ring(ring)) for ring in rings]
        return found + [("room", write_room(room)) for ring in rings[::2] for room in rooms_of(ring, 5)[::4]]

    def test_blanks(self):
        """[20.3]"""
        for prime in PRIMES:
            chance = random.Random(prime)
            for kind, text in self.samples(prime):
                for _ in range(3):
                    self.assertEqual(self.check(kind, spread(text, chance)), "read")

    def test_next_to_it(self):
        seen = {}
        for prime in PRIMES:
            chance = random.Random(prime + 1)
            for kind, text in self.samples(prime):
                for _ in range(25):
                    other = bent(spread(text, chance) if chance.random() < 0.3 else text, chance)
                    if chance.random() < 0.3:
                        other = bent(other, chance)
                    word = chance.choice((kind, kind, kind, "ring", "room", "space"))
                    key = (word, self.check(word, other))
                    seen[key] = seen.get(key, 0) + 1
        for kind in ("space", "ring", "room"):
            for word in ("spot", "refused", "read"):
                self.assertGreater(seen.get((kind, word), 0), 20, seen)

    def test_each_piece_that_is_lacking(self):
        for kind, text in self.samples(3):
            pieces = text.split(" ")
            for count in range(len(pieces)):
                for end in ("", " ", "   "):
                    short = " ".join(pieces[:count]) + end
                    if kind != "space" or count < 3:
                        call = {"space": read_space, "ring": read_ring, "room": read_room}[kind]
                        with self.assertRaises(ParseError) as caught:
                            call(short)
                        self.assertEqual(caught.exception.spot, len(short))

    def test_known_spots(self):
        cases = [
            (read_space, "", 0), (read_space, "   ", 3), (read_space, "spaces 2 1", 0), (read_space, " Space 2 1", 1), (read_space, "space", 5),
            (read_space, "space ", 6), (read_space, "space 4 1", 6), (read_space, "space 02 1", 6), (read_space, "space 2", 7), (read_space, "space 2 0", 8),
            (read_space, "space 2 151", 8), (read_space, "space 2 01", 8), (read_space, "space 2 1e0", 8), (read_space, "space 2  2 2", 11),
            (read_space, "space 2 2 012", 10), (read_space, "space 2 2 01 0", 13), (read_space, "space 2 2 01 02", 13), (read_space, "space\t2 2", 0),
            (read_space, "space 2 2\n", 8), (read_space, "space 2 \n2", 8), (read_space, "space +2 2", 6), (read_space, "space 2 2_0", 8),
            (read_space, "space 2 2 -1", 10), (read_space, "space \u0662 2", 6), (read_space, "space 2 2 1\u0661", 10), (read_space, "ring 2 1 1", 0),
            (read_ring, "ring 2 1", 8), (read_ring, "ring 2 1 2", 9), (read_ring, "ring 2 1 1 1", 11), (read_ring, "ring 2 10 1", 7),
            (read_ring, "ring 2 0", 7), (read_ring, "ring 11 1 1", 5), (read_ring, "ring 2 1 1 room", 11), (read_ring, "room 2 1 1", 0),
            (read_room, "room 2 1 1", 10), (read_room, "room 2 1 1 ", 11), (read_room, "room 2 1 1 41", 11), (read_room, "room 2 1 1 00", 11),
            (read_room, "room 2 1 1 0 0", 13), (read_room, "room 2 1 1 1", 12), (read_room, "room 2 1 1 1 2", 13), (read_room, "room 2 1 1 1 1 1", 15),
            (read_room, "room 2 1 0 1 0 0", 15), (read_room, "room 2 1 1 2 10 0", 16),
        ]
        for call, text, spot in cases:
            with self.assertRaises(ParseError) as caught:
                call(text)
            self.assertEqual(caught.exception.spot, spot, text)

    def test_values_that_are_no_texts(self):
        for call in (read_space, read_ring, read_room):
            for value in [value for value in junk() if not isinstance(value, str)] + [b"ring 2 1 1", ("ring 2 1 1",), "x" * 20001, " " * 20001, "a" * 10 ** 6]:
                with self.assertRaises(ParseError) as caught:
                    call(value)
                self.assertIs(caught.exception.spot, None)
            for text, spot in (("x" * 20000, 0), (" " * 20000, 20000), (" " * 19999 + "x", 19999)):
                with self.assertRaises(ParseError) as caught:
                    call(text)
                self.assertEqual(caught.exception.spot, spot)

    def test_refused(self):
        """Behind the pieces come the errors of the space, of the ring, and then of the room."""
        for text in ("space 2 2 00", "space 3 2 20", "space 2 2 11 01", "space 2 2 01 10", "space 2 1 1 1", "space 5 2 10 01 10", "space 2 1" + " 1" * 9000):
            self.assertRaises(InvalidSpace, read_space, text)
        self.assertEqual(read_ring("ring 3 2 10 01 01 02").size, 2)
        self.assertRaises(InvalidRing, read_ring, "ring 2 1 0")
        self.assertRaises(InvalidRing, read_ring, "ring 2 2 10 10 01 01")
        self.assertRaises(InvalidRing, read_room, "room 2 1 0 1 1")
        self.assertRaises(InvalidRing, read_room, "room 2 1 0 0")
        for text, reason in (("room 2 1 1 1 0", ("one",)), ("room 3 1 1 1 2", ("product", 0, 0)), ("room 2 1 1 2 10 00", ("one",)),
                             ("room 2 2 10 01 01 00 2 10 01 01 10", ("product", 1, 1))):
            with self.assertRaises(Refused) as caught:
                read_room(text)
            self.assertEqual(caught.exception.reason, reason)
        with self.assertRaises(ParseError) as caught:
            read_room("room 2 1 0 1 2")
        self.assertEqual(caught.exception.spot, 13)

    def test_nothing(self):
        for prime in PRIMES:
            for ring in plain_rings(prime)[::4]:
                nothing = Room.nothing(ring)
                text = write_room(nothing)
                self.assertTrue(text.endswith(" 0"))
                self.assertEqual([read_room(text), read_room("  " + text + " ")], [nothing, nothing])
            self.assertEqual(read_space(f"space {prime} 150"), (prime, 150, ()))

    def test_right_pieces_and_no_ring(self):
        """[20.3]: not each text with right pieces tells a ring."""
        self.assertRaises(InvalidRing, read_ring, "ring 2 2 00 00 00 00")
        self.assertEqual(read_ring(write_ring(F2)), F2)


if __name__ == "__main__":
    unittest.main()
