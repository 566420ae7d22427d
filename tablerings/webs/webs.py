"""Webs of arrows and the rings that their words tell, basic rings, and pictures that give a basic ring back."""

from tablerings.base.checks import check_from_to, check_prime, is_from_to, is_integer
from tablerings.base.lines import (
    at_places, combined, is_within, kernel_rows, leads_of, reduced, zero_row,
)
from tablerings.errors import InvalidOperation, InvalidWeb, Refused, TooMany
from tablerings.rings.corners import corner, sum_of_all
from tablerings.rings.frames import arrow_rows, frame_of, nil_of, nil_square
from tablerings.rings.idempotents import is_parting
from tablerings.rings.products import table_at
from tablerings.rings.radical import radical_sizes
from tablerings.rings.rings import MAX_SIZE, check_ring, sound_ring
from tablerings.webs.paths import free_spots, ideal_of, products_modulo, sum_row, web_of

MAX_POINTS = 9
MAX_ARROWS = 9
MAX_DEPTH = 10
MAX_PATHS = 200
LONGEST_WALK = 9


def are_arrows(points, value):
    """Whether a value is a tuple of at most nine pairs of points."""
    if not isinstance(value, tuple) or len(value) > MAX_ARROWS:
        return False
    if not all([isinstance(arrow, tuple) and len(arrow) == 2 for arrow in value]):
        return False
    return all([is_from_to(point, 0, points - 1) for arrow in value for point in arrow])


def is_walk(arrows, value, longest):
    """Whether a value is a tuple of at least two arrows, each of which starts where the one ahead of it ends."""
    if not isinstance(value, tuple) or not 2 <= len(value) <= longest:
        return False
    if not all([is_from_to(at, 0, len(arrows) - 1) for at in value]):
        return False
    return all([arrows[one][1] == arrows[other][0] for one, other in zip(value, value[1:])])


def is_word(prime, arrows, value, longest):
    """Whether a value is a word, with at most 200 paths and none longer than the longest."""
    if not isinstance(value, dict) or not 1 <= len(value) <= MAX_PATHS:
        return False
    for walk in value:
        if not is_walk(arrows, walk, longest) or not is_from_to(value[walk], 1, prime - 1):
            return False
    return len({(arrows[walk[0]][0], arrows[walk[-1]][1]): True for walk in value}) == 1


def are_words(prime, arrows, value, longest):
    """Whether a value is a tuple of at most 200 words with paths not longer than the longest."""
    if not isinstance(value, tuple) or len(value) > MAX_PATHS:
        return False
    return all([is_word(prime, arrows, word, longest) for word in value])


def check_paths(web):
    """Refuse a web with too many paths."""
    if len(web.paths) > MAX_PATHS:
        raise TooMany(MAX_PATHS)


def web_and_ideal(prime, points, arrows, words, depth):
    """The web and the ideal that its words make; refuse what tells none."""
    check_prime(prime)
    check_from_to(points, 1, MAX_POINTS)
    if not are_arrows(points, arrows):
        raise InvalidWeb("no tuple of at most nine pairs of points")
    if not are_words(prime, arrows, words, LONGEST_WALK):
        raise InvalidWeb("no tuple of at most 200 words")
    check_from_to(depth, 2, MAX_DEPTH)
    web = web_of(points, arrows, depth, MAX_PATHS)
    check_paths(web)
    ideal = ideal_of(prime, web, [sum_row(web, word) for word in words])
    if len(web.paths) - len(ideal.rows) > MAX_SIZE:
        raise TooMany(MAX_SIZE)
    return web, ideal


def web_ring(prime, points, arrows, words, depth):
    """The ring of the paths of a web with fewer arrows than the depth, modulo what the words say is 0."""
    web, ideal = web_and_ideal(prime, points, arrows, words, depth)
    table = products_modulo(prime, web, ideal)
    return sound_ring(prime, table, (1,) * points + zero_row(len(table) - points))


def web_paths(prime, points, arrows, words, depth):
    """The paths that are the base members of this ring."""
    web, ideal = web_and_ideal(prime, points, arrows, words, depth)
    return tuple([web.paths[at] for at in free_spots(web, ideal)])


def has_least_kinds(ring):
    """Whether all kinds of a ring are those of the residues themselves."""
    frame = frame_of(ring)
    return max([len(lot) for lot in frame.lots]) == 1 and max(frame.degrees) == 1


def is_basic(ring):
    """Whether a ring is basic."""
    check_ring(ring)
    return has_least_kinds(ring)


def basic_ring(ring):
    """The ring of all e r e, e being the sum of one least idempotent of each likeness."""
    check_ring(ring)
    one = sum_of_all(ring, [lot[0] for lot in frame_of(ring).lots])
    base = corner(ring, one, one)
    leads = leads_of(base)
    return sound_ring(ring.prime, table_at(ring, base, leads), at_places(one, leads))


def arrow_numbers(ring, some):
    """How many arrows there are between two idempotents each of a parting."""
    check_ring(ring)
    if not is_parting(ring, some):
        raise InvalidOperation("no parting")
    square = nil_square(ring)
    return tuple([tuple([len(arrow_rows(ring, square, one, other)) for other in some]) for one in some])


def arrow_members(ring, some):
    """The triples of a start, an end and a member for all arrows between the idempotents of a parting."""
    square = nil_square(ring)
    told = []
    for start, one in enumerate(some):
        for end, other in enumerate(some):
            told.extend([(start, end, row) for row in arrow_rows(ring, square, one, other)])
    return tuple(told)


def nil_depth(ring):
    """The least number from 2 on by which the power of J is 0."""
    return max(2, len(radical_sizes(ring)) + 1)


def told_web(ring, some, told):
    """The web of the arrows that triples tell, with as many paths as a picture needs."""
    return web_of(len(some), tuple([(start, end) for start, end, _ in told]), nil_depth(ring), MAX_PATHS)


def pictured(ring):
    """The arrows between the idempotents of a parting, and their web; refuse a ring without a picture."""
    if not has_least_kinds(ring):
        raise Refused(("basic",))
    some = frame_of(ring).parting
    told = arrow_members(ring, some)
    web = told_web(ring, some, told)
    check_paths(web)
    return told, web


def path_members(ring, web, some, told):
    """For each path of a web the product of the members in the place of its arrows."""
    made = {}
    for start, walk in web.paths:
        if walk:
            made[(start, walk)] = ring.bare_product(made[(start, walk[:-1])], told[walk[-1]][2])
        else:
            made[(start, walk)] = some[start]
    return [made[path] for path in web.paths]


def picture(ring):
    """A picture of a basic ring."""
    check_ring(ring)
    told, web = pictured(ring)
    some = frame_of(ring).parting
    words = []
    # What is led to 0 is a sum of paths with two or more arrows; each row of its base has paths with one start and end.
    for row in kernel_rows(ring.prime, path_members(ring, web, some, told)):
        pairs = sorted([(web.paths[at][1], number) for at, number in enumerate(row) if number])
        words.append({walk: times for walk, times in pairs})
    return (some, told, tuple(words), nil_depth(ring))


def is_between(ring, some, value):
    """Whether a value is a triple of two indices and of a member of J between the idempotents there."""
    if not isinstance(value, tuple) or len(value) != 3:
        return False
    start, end, member = value
    if not is_from_to(start, 0, len(some) - 1) or not is_from_to(end, 0, len(some) - 1) or member not in ring:
        return False
    if ring.bare_product(ring.bare_product(some[start], member), some[end]) != member:
        return False
    return is_within(ring.prime, nil_of(ring), (member,))


def are_arrow_members(ring, some, value):
    """Whether a value is a tuple of such triples the members of which are a base of J modulo J J."""
    nil, square = nil_of(ring), nil_square(ring)
    if not isinstance(value, tuple) or len(value) != len(nil) - len(square):
        return False
    if not all([is_between(ring, some, arrow) for arrow in value]):
        return False
    return len(reduced(ring.prime, square + tuple([member for _, _, member in value]))) == len(nil)


def is_picture(ring, value):
    """Whether a value is a picture of a basic ring."""
    check_ring(ring)
    pictured(ring)
    depth, prime = nil_depth(ring), ring.prime
    if not isinstance(value, tuple) or len(value) != 4 or not is_integer(value[3]) or value[3] != depth:
        return False
    some, told, words = value[:3]
    if not is_parting(ring, some) or not are_arrow_members(ring, some, told):
        return False
    web = told_web(ring, some, told)
    if not are_words(prime, web.arrows, words, depth - 1):
        return False
    rows, members = [sum_row(web, word) for word in words], path_members(ring, web, some, told)
    if any([combined(prime, ring.size, row, members) != zero_row(ring.size) for row in rows]):
        return False
    return len(web.paths) - len(ideal_of(prime, web, rows).rows) == ring.size
