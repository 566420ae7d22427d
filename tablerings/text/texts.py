"""Spaces, rings and rooms as texts: they are written, and read again."""

from tablerings.base.checks import PRIMES, check_prime
from tablerings.base.lanes import DIGITS, RESIDUES
from tablerings.base.spaces import MAX_WIDTH, check_space, check_width
from tablerings.errors import ParseError
from tablerings.rings.rings import MAX_SIZE, Ring, check_ring
from tablerings.rooms.rooms import MAX_ROOM, Room, check_room

MAX_TEXT = 20000


class Reader:
    """The pieces of a text, and how many of them are read."""

    def __init__(self, text):
        self.pieces = text.split(" ")
        self.end = len(text)
        self.done = 0
        self.spot = 0
        self.skip()

    def skip(self):
        """Go on to the next piece; between two blanks, and at the ends, stands an empty one."""
        while self.done < len(self.pieces) and self.pieces[self.done] == "":
            self.done = self.done + 1
            self.spot = self.spot + 1

    def is_at_end(self):
        """Whether all pieces are read."""
        return self.done == len(self.pieces)

    def piece(self):
        """The next piece, which has to be there."""
        if self.is_at_end():
            raise ParseError(self.end)
        return self.pieces[self.done]

    def go_on(self):
        """The next piece is read."""
        self.spot = self.spot + len(self.pieces[self.done]) + 1
        self.done = self.done + 1
        self.skip()

    def taken(self, known):
        """Read a piece and tell what it stands for, by the dict of all pieces that can stand here."""
        piece = self.piece()
        if piece not in known:
            raise ParseError(self.spot)
        self.go_on()
        return known[piece]

    def row(self, prime, width):
        """Read a row of a width."""
        piece = self.piece()
        if len(piece) != width or not all([digit in DIGITS[:prime] for digit in piece]):
            raise ParseError(self.spot)
        self.go_on()
        return tuple([RESIDUES[digit] for digit in piece])

    def square(self, prime, size):
        """Read a square table of a size."""
        return tuple([self.row(prime, size) for _ in range(size)])


def numbers_told(numbers):
    """The dict from the digits of some numbers to these numbers."""
    return {str(number): number for number in numbers}


def from_to_told(least, most):
    """The dict from the digits of the numbers between two numbers to these numbers."""
    return numbers_told(list(range(least, most + 1)))


def row_pieces(rows):
    """The pieces that tell some rows."""
    return ["".join([DIGITS[number] for number in row]) for row in rows]


def ring_pieces(ring):
    """The pieces that tell a ring, behind the word."""
    rows = [row for products in ring.table for row in products]
    return [str(ring.prime), str(ring.size)] + row_pieces(rows)


def write_space(prime, width, space):
    """The text of a space."""
    check_prime(prime)
    check_width(width)
    check_space(prime, width, space)
    return " ".join(["space", str(prime), str(width)] + row_pieces(space))


def write_ring(ring):
    """The text of a ring."""
    check_ring(ring)
    return " ".join(["ring"] + ring_pieces(ring))


def write_room(room):
    """The text of a room."""
    check_room(room)
    rows = [row for table in room.tables for row in table]
    return " ".join(["room"] + ring_pieces(room.ring) + [str(room.size)] + row_pieces(rows))


def reader_of(text, word):
    """What reads a text, behind its first piece, which is a word."""
    if not isinstance(text, str) or len(text) > MAX_TEXT:
        raise ParseError(None)
    reader = Reader(text)
    reader.taken({word: word})
    return reader


def check_end(reader):
    """Refuse a further piece."""
    if not reader.is_at_end():
        raise ParseError(reader.spot)


def read_space(text):
    """The triple of the prime, the width and the space that a text tells."""
    reader = reader_of(text, "space")
    prime, width = reader.taken(numbers_told(PRIMES)), reader.taken(from_to_told(1, MAX_WIDTH))
    rows = []
    while not reader.is_at_end():
        rows.append(reader.row(prime, width))
    check_space(prime, width, tuple(rows))
    return (prime, width, tuple(rows))


def ring_told(reader):
    """The prime and the table of the ring that the next pieces tell."""
    prime, size = reader.taken(numbers_told(PRIMES)), reader.taken(from_to_told(1, MAX_SIZE))
    return prime, tuple([reader.square(prime, size) for _ in range(size)])


def read_ring(text):
    """The ring that a text tells."""
    reader = reader_of(text, "ring")
    prime, table = ring_told(reader)
    check_end(reader)
    return Ring(prime, table)


def read_room(text):
    """The room that a text tells."""
    reader = reader_of(text, "room")
    prime, table = ring_told(reader)
    size = reader.taken(from_to_told(0, MAX_ROOM))
    tables = tuple([reader.square(prime, size) for _ in table])
    check_end(reader)
    return Room(Ring(prime, table), tables)
