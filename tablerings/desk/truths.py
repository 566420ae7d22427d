"""The sayings of desks: which values are sayings, and whether they are true."""

from tablerings.base.checks import is_short_integer
from tablerings.desk.deeds import is_name
from tablerings.rooms.acting import member_lines
from tablerings.rooms.covers import least_counts
from tablerings.rooms.homs import map_rows, self_rows
from tablerings.rooms.likeness import alike_of_all
from tablerings.rooms.maps import MAX_SELF, is_unsplittable

LENGTHS = {"size": 3, "least": 2, "unsplit": 2, "alike": 3, "unlike": 3, "maps": 4, "killed": 3}
# How many names stand behind the word of a saying.
NAMED = {"size": 1, "least": 1, "unsplit": 1, "alike": 2, "unlike": 2, "maps": 2, "killed": 1}


def names_of(saying):
    """The names in a saying, in their sequence."""
    return saying[1:1 + NAMED[saying[0]]]


def is_saying(ring, value, longest):
    """Whether a value has the form of a saying over a ring, with names of at most so many letters."""
    if not isinstance(value, tuple) or not value or not isinstance(value[0], str) or value[0] not in LENGTHS:
        return False
    word = value[0]
    if len(value) != LENGTHS[word] or not all([is_name(name, longest) for name in names_of(value)]):
        return False
    if word == "killed":
        return value[2] in ring
    return word not in ("size", "maps") or is_short_integer(value[-1])


def has_few_selves(room):
    """Whether a room has at most forty independent self maps."""
    return len(self_rows(room)) <= MAX_SELF


def is_true_of_one(saying, room):
    """Whether a saying about one room is true."""
    word = saying[0]
    if word == "size":
        return room.size == saying[2]
    if word == "killed":
        return not any(member_lines(room, saying[2]))
    if room.size == 0:
        return False
    if word == "least":
        return sum(least_counts(room)) == 1
    return has_few_selves(room) and is_unsplittable(room)


def is_true_of_two(saying, room, further):
    """Whether a saying about two rooms is true."""
    if saying[0] == "maps":
        return len(map_rows(room, further)) == saying[3]
    if not has_few_selves(room) or not has_few_selves(further):
        return False
    return (alike_of_all(room, further) is not None) == (saying[0] == "alike")


def is_true_of(kept, saying):
    """Whether a saying is true of the rooms for which its names stand."""
    names = names_of(saying)
    if len(names) == 1:
        return is_true_of_one(saying, kept[names[0]])
    return is_true_of_two(saying, kept[names[0]], kept[names[1]])
