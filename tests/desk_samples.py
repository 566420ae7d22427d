"""A slow desk that does what the document's words say, and deeds and sayings by chance."""

import random

from tablerings.base.spaces import kernel
from tablerings.errors import InvalidNumber, InvalidOperation, NothingToUndo, Refused, TooMany, UnknownName
from tablerings.rooms.least import room_paper
from tablerings.rooms.maps import alike_map, map_number, split_paper, unlike_paper
from tablerings.rooms.rooms import Room, quotient_room, rebased_room, subroom, subroom_made
from tests.room_samples import rooms_of
from tests.samples import chance_table

LETTERS = set("abcdefghijklmnopqrstuvwxyz")


def is_name(value):
    """Whether a value is a string of one to eight letters a to z."""
    return type(value) is str and 1 <= len(value) <= 8 and set(value) <= LETTERS


def is_residue_row(prime, value, width):
    """Whether a value is a row of the width."""
    return type(value) is tuple and len(value) == width and all(type(n) is int and 0 <= n < prime for n in value)


def is_deed(ring, value):
    """Whether a value is a deed, by the document's words."""
    if type(value) is not tuple or not value or type(value[0]) is not str:
        return False
    word, rest = value[0], value[1:]
    shapes = {"put": "no", "take": "n", "same": "nn", "join": "nnn", "below": "no", "above": "no", "rebase": "no"}
    if word not in shapes or len(rest) != len(shapes[word]):
        return False
    if not all(is_name(some) for some, kind in zip(rest, shapes[word]) if kind == "n"):
        return False
    if word == "put":
        return isinstance(rest[1], Room) and rest[1].ring == ring
    if word in ("below", "above"):
        rows = rest[1]
        if type(rows) is not tuple or len(rows) > 12 or not all(type(row) is tuple for row in rows):
            return False
        return len({len(row) for row in rows}) <= 1 and all(len(row) <= 12 and is_residue_row(ring.prime, row, len(row)) for row in rows)
    if word == "rebase":
        rows = rest[1]
        return type(rows) is tuple and 1 <= len(rows) <= 12 and all(is_residue_row(ring.prime, row, len(rows)) for row in rows)
    return True


def is_saying(ring, value):
    """Whether a value has the form of a saying."""
    if type(value) is not tuple or not value or type(value[0]) is not str:
        return False
    word, rest = value[0], value[1:]
    shapes = {"size": "ni", "least": "n", "unsplit": "n", "alike": "nn", "unlike": "nn", "maps": "nni", "killed": "nm"}
    if word not in shapes or len(rest) != len(shapes[word]):
        return False
    for some, kind in zip(rest, shapes[word]):
        right = {"n": is_name(some), "i": type(some) is int and abs(some) < 10 ** 60, "m": is_residue_row(ring.prime, some, ring.size)}
        if not right[kind]:
            return False
    return True


def names_in(saying):
    """The names in a saying, in their sequence."""
    return saying[1:{"alike": 3, "unlike": 3, "maps": 3}.get(saying[0], 2)]


def is_true_of(rooms, saying):
    """Whether a saying is true of the rooms, by the functions that tell of them."""
    word, some = saying[0], [rooms[name] for name in names_in(saying)]
    try:
        if word == "size":
            return some[0].size == saying[2]
        if word == "least":
            return some[0].size > 0 and room_paper(some[0])[0] == "least"
        if word == "unsplit":
            return some[0].size > 0 and split_paper(some[0])[0] == "whole"
        if word == "alike":
            return alike_map(*some) is not None
        if word == "unlike":
            return unlike_paper(*some) is not None
        if word == "maps":
            return map_number(*some) == saying[3]
    except TooMany:
        return False
    units = [tuple(1 if i == j else 0 for j in range(some[0].size)) for i in range(some[0].size)]
    return all(not any(some[0].led_by(saying[2], unit)) for unit in units)


class SlowDesk:
    """A desk that keeps copies of all that it was."""

    def __init__(self, ring):
        self.ring = ring
        self.rooms = {}
        self.said = []
        self.moves = []

    def go(self, rooms, said):
        """Keep other rooms and sayings."""
        if rooms != self.rooms or said != self.said:
            self.moves.append((dict(self.rooms), list(self.said)))
            self.rooms, self.said = dict(rooms), list(said)

    def do(self, *deeds):
        for deed in deeds:
            if not is_deed(self.ring, deed):
                raise InvalidOperation("deed")
        rooms = dict(self.rooms)
        for index, deed in enumerate(deeds):
            self.do_one(rooms, deed, index)
        for saying in self.said:
            if not set(names_in(saying)) <= set(rooms):
                raise Refused(("taken", saying))
        for saying in self.said:
            if not is_true_of(rooms, saying):
                raise Refused(("broken", saying))
        self.go(rooms, self.said)

    def do_one(self, rooms, deed, index):
        word, name = deed[:2]
        asked = {"put": (), "take": (name,), "same": deed[2:], "join": deed[2:]}.get(word, (name,))
        for some in asked:
            if some not in rooms:
                raise UnknownName(some)
        if word == "take":
            del rooms[name]
            return
        if word == "put":
            room = deed[2]
        elif word == "same":
            room = rooms[deed[2]]
        elif word == "join":
            room = Room.side_by_side(rooms[deed[2]], rooms[deed[3]])
        elif word == "rebase":
            room, table = rooms[name], deed[2]
            if len(table) != room.size:
                raise Refused(("width", index))
            if kernel(self.ring.prime, table):
                raise Refused(("singular", index))
            room = rebased_room(room, table)
        else:
            room, vectors = rooms[name], deed[2]
            if vectors and len(vectors[0]) != room.size:
                raise Refused(("width", index))
            space = subroom_made(room, vectors)
            room = subroom(room, space) if word == "below" else quotient_room(room, space)
        if room.size > 12:
            raise Refused(("wide", index))
        rooms[name] = room

    def say(self, saying):
        if not is_saying(self.ring, saying):
            raise InvalidOperation("saying")
        for name in names_in(saying):
            if name not in self.rooms:
                raise UnknownName(name)
        if saying in self.said:
            return
        if len(self.said) == 20:
            raise TooMany(20)
        if not is_true_of(self.rooms, saying):
            raise Refused(("false",))
        self.go(self.rooms, self.said + [saying])

    def unsay(self, saying):
        if not is_saying(self.ring, saying) or saying not in self.said:
            raise UnknownName(saying)
        self.go(self.rooms, [other for other in self.said if other != saying])

    def is_true(self, value):
        return is_saying(self.ring, value) and set(names_in(value)) <= set(self.rooms) and is_true_of(self.rooms, value)

    def undo(self, steps=1):
        if type(steps) is not int or not 1 <= steps < 10 ** 60:
            raise InvalidNumber(steps)
        if steps > len(self.moves):
            raise NothingToUndo(steps)
        for _ in range(steps):
            self.rooms, self.said = self.moves.pop()


class Chance:
    """Deeds and sayings by chance, over a ring."""

    def __init__(self, ring, seed):
        self.ring = ring
        self.chance = random.Random(seed)
        rooms = rooms_of(ring, 6, seed)
        wide = rooms[1]
        while wide.size <= 12:
            wide = Room.side_by_side(wide, rooms[1])
        self.rooms = rooms
        self.wide = wide

    def name(self, desk):
        """A name, mostly one of the desk."""
        if desk.rooms and self.chance.random() < 0.92:
            return self.chance.choice(sorted(desk.rooms))
        return self.chance.choice(("a", "b", "c", "dd", "zzzzzzzz"))

    def row(self, width):
        return tuple(self.chance.randrange(self.ring.prime) for _ in range(width))

    def deed(self, desk):
        """A deed, now and then one that is refused."""
        word = self.chance.choice(("put", "put", "take", "same", "join", "below", "above", "rebase"))
        name, other, more = (self.name(desk) for _ in range(3))
        size = desk.rooms[name].size if name in desk.rooms else 2
        if self.chance.random() < 0.1:
            size = self.chance.randrange(13)
        if word == "put":
            return (word, name, self.wide if self.chance.random() < 0.05 else self.chance.choice(self.rooms))
        if word == "take":
            return (word, name)
        if word == "same":
            return (word, name, other)
        if word == "join":
            return (word, name, other, more)
        if word == "rebase":
            table = chance_table(self.ring.prime, size, self.chance) if size else ((1,),)
            return (word, name, (table[0],) * len(table) if self.chance.random() < 0.25 else table)
        return (word, name, tuple(self.row(size) for _ in range(self.chance.choice((0, 1, 1, 2)))))

    def saying(self, desk):
        """A saying, mostly a true one."""
        word = self.chance.choice(("size", "least", "unsplit", "alike", "unlike", "maps", "killed"))
        name, other = self.name(desk), self.name(desk)
        known = name in desk.rooms and other in desk.rooms and self.chance.random() < 0.9
        if word == "size":
            return (word, name, desk.rooms[name].size if known else 3)
        if word == "maps":
            return (word, name, other, map_number(desk.rooms[name], desk.rooms[other]) if known else 1)
        if word == "killed":
            return (word, name, (0,) * self.ring.size if self.chance.random() < 0.4 else self.row(self.ring.size))
        return (word, name) if word in ("least", "unsplit") else (word, name, other)
