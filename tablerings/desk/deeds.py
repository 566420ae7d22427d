"""The deeds of desks: which values are deeds, and what they do to the rooms that stand for names."""

from tablerings.base.checks import are_rows, is_square
from tablerings.base.lines import undone_rows
from tablerings.errors import Refused, UnknownName
from tablerings.rooms.rooms import Room, quotient_room, rebased_room, subroom, subroom_made, sum_room

LETTERS = "abcdefghijklmnopqrstuvwxyz"
LENGTHS = {"put": 3, "take": 2, "same": 3, "join": 4, "below": 3, "above": 3, "rebase": 3}
# At which places of a deed names stand, and at which ones those that have to stand for a room.
NAMES = {"put": (1,), "take": (1,), "same": (1, 2), "join": (1, 2, 3), "below": (1,), "above": (1,), "rebase": (1,)}
KNOWN = {"put": (), "take": (1,), "same": (2,), "join": (2, 3), "below": (1,), "above": (1,), "rebase": (1,)}


def is_name(value, longest):
    """Whether a value is a name of at most so many letters."""
    if not isinstance(value, str) or not 1 <= len(value) <= longest:
        return False
    return all([letter in LETTERS for letter in value])


def are_vectors(prime, value, widest):
    """Whether a value is a tuple of at most so many rows of one width, which is not greater than this number."""
    if value == ():
        return True
    if not isinstance(value, tuple) or not isinstance(value[0], tuple) or len(value[0]) > widest:
        return False
    return are_rows(prime, len(value[0]), value, widest)


def is_deed(ring, value, longest, widest):
    """Whether a value is a deed over a ring, with such names, vectors and tables."""
    if not isinstance(value, tuple) or not value or not isinstance(value[0], str) or value[0] not in LENGTHS:
        return False
    word = value[0]
    if len(value) != LENGTHS[word] or not all([is_name(value[at], longest) for at in NAMES[word]]):
        return False
    if word == "put":
        return isinstance(value[2], Room) and value[2].ring == ring
    if word == "rebase":
        table = value[2]
        return isinstance(table, tuple) and 1 <= len(table) <= widest and is_square(ring.prime, len(table), table)
    return word not in ("below", "above") or are_vectors(ring.prime, value[2], widest)


def cut_room(room, word, vectors, at):
    """The subroom that some vectors make, or the quotient by it."""
    if vectors and len(vectors[0]) != room.size:
        raise Refused(("width", at))
    space = subroom_made(room, vectors)
    return subroom(room, space) if word == "below" else quotient_room(room, space)


def moved_to_base(room, table, at):
    """The room by another base."""
    if len(table) != room.size:
        raise Refused(("width", at))
    if undone_rows(room.ring.prime, table) is None:
        raise Refused(("singular", at))
    return rebased_room(room, table)


def made_room(kept, deed, at):
    """The room for which the first name of a deed stands behind it, unless it leaves."""
    word = deed[0]
    if word == "put":
        return deed[2]
    if word == "same":
        return kept[deed[2]]
    if word == "join":
        return sum_room(kept[deed[2]].ring, (kept[deed[2]], kept[deed[3]]))
    if word == "rebase":
        return moved_to_base(kept[deed[1]], deed[2], at)
    return cut_room(kept[deed[1]], word, deed[2], at)


def behind_deed(kept, deed, at, widest):
    """The dict from names to rooms behind a deed, which has an index."""
    for place in KNOWN[deed[0]]:
        if deed[place] not in kept:
            raise UnknownName(deed[place])
    made = {name: kept[name] for name in kept if name != deed[1]}
    if deed[0] == "take":
        return made
    room = made_room(kept, deed, at)
    if room.size > widest:
        raise Refused(("wide", at))
    made[deed[1]] = room
    return {name: made[name] for name in sorted(made)}
