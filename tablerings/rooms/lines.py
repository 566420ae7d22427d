"""Rings of one line: their ladders, and the stretches of which rooms over them are made."""

from tablerings.base.checks import is_from_to, is_short_integer
from tablerings.errors import InvalidNumber, InvalidOperation, Refused
from tablerings.rings.frames import arrow_rows, frame_of, nil_square
from tablerings.rings.rings import check_ring
from tablerings.rooms.acting import empty_echelon, falling_bases, member_lines
from tablerings.rooms.covers import arrow_lines, least_counts
from tablerings.rooms.free import free_of
from tablerings.rooms.rooms import check_room, quotient_room


def nil_bases(room):
    """The bases of all vectors, of what J makes of them, of what it makes of this, and so on, without ()."""
    return falling_bases(room, arrow_lines(room))


def rank_on(room, lines, base):
    """The dimension of what a table, told by its lines, makes of a space."""
    found = empty_echelon(room)
    found.take_all([room.lanes.led(lines, row) for row in base])
    return len(found.rows)


def layer_counts(room):
    """For each layer of a room how often each least room stands in it."""
    frame = frame_of(room.ring)
    heads = [member_lines(room, lot[0]) for lot in frame.lots]
    # The base vectors of a least room that its idempotent leaves are as many as its degree.
    ranks = [[rank_on(room, lines, base) // degree for lines, degree in zip(heads, frame.degrees)]
             for base in nil_bases(room)]
    ranks.append([0] * len(heads))
    return [[high - low for high, low in zip(one, other)] for one, other in zip(ranks, ranks[1:])]


def first_of(counts):
    """The first index at which a number other than 0 stands, or None."""
    places = [at for at, count in enumerate(counts) if count]
    return places[0] if places else None


def made_next(ring):
    """The indices of the next least rooms; None for a ring that is not of one line."""
    frame, square = frame_of(ring), nil_square(ring)
    heads, degrees = [lot[0] for lot in frame.lots], frame.degrees
    numbers = [[len(arrow_rows(ring, square, one, other)) for other in heads] for one in heads]
    places = range(len(heads))
    # If all second layers are 0 or least, so are all further ones: J of a ladder is led onto by a free room.
    left = [[numbers[other][one] // degrees[other] for other in places] for one in places]
    right = [[numbers[one][other] // degrees[other] for other in places] for one in places]
    if max([sum(counts) for counts in left + right]) > 1:
        return None
    return tuple([first_of(counts) for counts in left])


def next_of(ring):
    """The indices of the next least rooms, or None, found once."""
    if "next" not in ring.found:
        ring.found["next"] = made_next(ring)
    return ring.found["next"]


def check_lines(ring):
    """Refuse a ring that is not of one line."""
    if next_of(ring) is None:
        raise Refused(("lines",))


def is_line_ring(ring):
    """Whether a ring is of one line."""
    check_ring(ring)
    return next_of(ring) is not None


def lengths_of(ring):
    """The lengths of the free rooms of a ring of one line."""
    return tuple([sum(least_counts(room)) for room in free_of(ring)])


def ladder_lengths(ring):
    """The lengths of the free rooms."""
    check_ring(ring)
    check_lines(ring)
    return lengths_of(ring)


def next_heads(ring):
    """The indices of the next least rooms, None for those without."""
    check_ring(ring)
    check_lines(ring)
    return next_of(ring)


def later_head(ring, head, steps):
    """The index of the least room that comes of one by so many steps, or None."""
    at = head
    for _ in range(steps):
        at = None if at is None else next_of(ring)[at]
    return at


def stretches(room):
    """The ascending triples of a head, a length, and how often this stretch stands in a room."""
    check_room(room)
    check_lines(room.ring)
    layers, found = layer_counts(room), []
    for head in range(len(next_of(room.ring))):
        stops = [later_head(room.ring, head, step) for step in range(len(layers))]
        numbers = [0 if at is None else layer[at] for layer, at in zip(layers, stops)] + [0]
        # Each number tells of stretches of at least a length.
        times = [one - other for one, other in zip(numbers, numbers[1:])]
        found.extend([(head, at + 1, count) for at, count in enumerate(times) if count])
    return tuple(found)


def check_length(ring, head, length):
    """Refuse a ring that is not of one line, or a stretch that is longer than the free room."""
    check_lines(ring)
    if length > lengths_of(ring)[head]:
        raise InvalidOperation("longer than the free room")


def room_of_stretch(ring, head, length):
    """A room that is a stretch."""
    check_ring(ring)
    if not is_from_to(head, 0, len(frame_of(ring).lots) - 1):
        raise InvalidNumber(head)
    if not is_short_integer(length) or length < 1:
        raise InvalidNumber(length)
    check_length(ring, head, length)
    room = free_of(ring)[head]
    return quotient_room(room, (nil_bases(room) + [()])[length])


def check_stretch(ring, value):
    """Refuse what is no pair of an index of a least room and of an integer from 1 on."""
    if not isinstance(value, tuple) or len(value) != 2 or not is_from_to(value[0], 0, len(frame_of(ring).lots) - 1):
        raise InvalidOperation("no pair of an index of a least room and a length")
    if not is_short_integer(value[1]) or value[1] < 1:
        raise InvalidOperation("no length")


def stretch_maps(ring, one, other):
    """How many maps of a stretch to another one are independent."""
    check_ring(ring)
    check_stretch(ring, one)
    check_stretch(ring, other)
    for head, length in (one, other):
        check_length(ring, head, length)
    heights = range(1, min(one[1], other[1]) + 1)
    fitting = [height for height in heights if later_head(ring, other[0], other[1] - height) == one[0]]
    return frame_of(ring).degrees[one[0]] * len(fitting)
