"""Covers: which vectors make a room, and how sums of free rooms are led onto it. Nothing is checked here.

The indices of likenesses are those of the frame of the ring; e is the first idempotent of a likeness, R e its free
room.
"""

from tablerings.base.lanes import LANE, packed, summed, unpacked
from tablerings.base.lines import told_echelon
from tablerings.rings.frames import frame_of
from tablerings.rooms.acting import empty_echelon, member_lines, orbit


class Cover:
    """A cover of a room, and what it leads to 0.

    The attributes are: the pairs of a likeness and of the vector to which its e is led, one for each free room; for
    each base vector of the room a row of the free sum that is led to it; and the base of the rows that are led to 0.
    """

    def __init__(self, tops, back, gone):
        self.tops = tops
        self.back = back
        self.gone = gone


def corner_rows(room):
    """For each likeness the base of the vectors that its e leads to themselves."""
    if "corners" not in room.found:
        bases = []
        for lot in frame_of(room.ring).lots:
            found = empty_echelon(room)
            found.take_all(member_lines(room, lot[0]))
            bases.append(found.base(room.size))
        room.found["corners"] = bases
    return room.found["corners"]


def least_counts(room):
    """How often each least room stands in a row of subrooms."""
    degrees = frame_of(room.ring).degrees
    return tuple([len(base) // degree for base, degree in zip(corner_rows(room), degrees)])


def arrow_lines(room):
    """The rows of the tables of members that are, with J J, all of J."""
    return [member_lines(room, arrow) for arrow in frame_of(room.ring).arrows]


def nil_echelon(room):
    """The echelon of what members of J make of vectors."""
    found = empty_echelon(room)
    # Members of J are sums of products of these members and any members behind them.
    for lines in arrow_lines(room):
        found.take_all(lines)
    return found


def free_images(room, free, vector):
    """What the base of a free room is led to if its e is led to a vector."""
    made = orbit(room, vector)
    return [room.lanes.settled(summed(member, made)) for member in free]


def made_tops(room):
    """The pairs of a likeness and of a vector of its corner that make the room, none of them being too many."""
    free = frame_of(room.ring).free
    found, tops = nil_echelon(room), []
    for at, base in enumerate(corner_rows(room)):
        for vector in base:
            # Each vector that is no sum of what is there makes one more least room of the head.
            if found.take(packed(vector)):
                found.take_all(free_images(room, free[at], vector))
                tops.append((at, vector))
    return tops


def tops_of(room):
    """The pairs of a likeness and of a vector of its corner that make the room, found once."""
    if "tops" not in room.found:
        room.found["tops"] = made_tops(room)
    return room.found["tops"]


def head_counts(room):
    """How often each least room stands in the head of a room."""
    return tuple([len([top for top in tops_of(room) if top[0] == at]) for at in range(len(corner_rows(room)))])


def cover_lines(room):
    """The numbers of the rows of the table of a cover."""
    free = frame_of(room.ring).free
    return [line for at, vector in tops_of(room) for line in free_images(room, free[at], vector)]


def made_cover(room):
    """A cover of a room."""
    lines, size = cover_lines(room), room.size
    count = len(lines)
    done = told_echelon(room.ring.prime, size, lines).reduced(size + count)
    back = [unpacked(count, done[at] - (1 << at * LANE)) for at in sorted(done, reverse=True) if at >= count]
    gone = [unpacked(count, done[at]) for at in sorted(done, reverse=True) if at < count]
    return Cover(tops_of(room), back, gone)


def cover_of(room):
    """A cover of a room, found once."""
    if "cover" not in room.found:
        room.found["cover"] = made_cover(room)
    return room.found["cover"]


def free_size(ring, numbers):
    """The number of the base vectors of a free sum."""
    return sum([number * len(base) for number, base in zip(numbers, frame_of(ring).free)])
