"""Values that the tests pass: rings of many kinds, wrong values of every kind, and slow ways to the same answers."""

import itertools
import random

from tablerings.base.polys import first_irreducible, poly_product
from tablerings.desk.desk import Desk
from tablerings.errors import RingError
from tablerings.rings.rings import Ring, opposite, rebased

PRIMES = (2, 3, 5, 7)

F2, U3, K9 = Ring.full(2, 2), Ring.stairs(2, 3), Ring.of_poly(3, (1, 0, 1))
S3, C4 = Ring.of_moves(2, ((1, 0, 2), (1, 2, 0))), Ring.of_moves(2, ((1, 2, 3, 0),))
N4 = Ring.of_poly(3, (0, 0, 0, 0, 1))
V4 = Ring.of_moves(2, ((1, 0, 3, 2), (2, 3, 0, 1)))


def deep(levels, inner):
    """A tuple in a tuple, so many levels deep."""
    return inner if levels == 0 else (deep(levels - 1, inner),)


def junk():
    """Values that are nothing that any function asks for, but for those that are asked to judge."""
    return [
        None, True, False, "", "left ", "BOTH", "x" * 4000, "a\tb\n", 10 ** 99, -10 ** 99, -1, "2",
        [], [0], [(1, 0)], {}, {"a": 1}, {(1, 0): ()}, deep(8, 1), deep(7, ()), (None,), ((None,),), (True,), ((True,),),
        ("01",), (("0", "1"),), ([1, 0],), ((1, [0]),), ((1, 0), [0, 1]), ({},), ({"a": (1,)}, 1), ((10 ** 99,),),
        (-1, 0), ((0, -1),), F2, (F2,), ((F2, K9),), RingError("no ring"), ((1, 0), (1,)), ((), ()), (((1,), (0, 1)),),
        Desk(K9), (Desk(K9),), [Desk(F2)],
    ]


def rows_of(prime, width):
    """All rows of a width."""
    return list(itertools.product(range(prime), repeat=width))


def sums_of(prime, width, rows):
    """All sums of multiples of some rows, as a set."""
    found = {(0,) * width}
    for row in rows:
        found = {tuple((a + number * b) % prime for a, b in zip(low, row)) for low in found for number in range(prime)}
    return found


def multiplied(ring, one, other):
    """The product as the table of the ring tells it, term by term."""
    size, prime, table = ring.size, ring.prime, ring.table
    return tuple(
        sum(one[i] * other[j] * table[i][j][k] for i in range(size) for j in range(size)) % prime for k in range(size)
    )


def units_by_trial(ring):
    """The units, found by trying all pairs of members."""
    members = rows_of(ring.prime, ring.size)
    return [a for a in members if any(
        multiplied(ring, a, b) == ring.one and multiplied(ring, b, a) == ring.one for b in members)]


def chance_table(prime, size, chance):
    """A table that some table undoes, by chance: steps of rows added to one another and exchanged."""
    rows = [[1 if i == j else 0 for j in range(size)] for i in range(size)]
    for _ in range(4 * size):
        one, other = chance.randrange(size), chance.randrange(size)
        number = chance.randrange(1, prime)
        if one == other:
            rows[one] = [number * a % prime for a in rows[one]]
        else:
            rows[one] = [(a + number * b) % prime for a, b in zip(rows[one], rows[other])]
    return tuple(tuple(row) for row in rows)


def full_over(prime, poly, side):
    """All tables with so many rows and columns over the polynomials modulo a monic one."""
    low = Ring.of_poly(prime, poly)
    places = [(i, j, e) for i in range(side) for j in range(side) for e in range(low.size)]
    size = len(places)

    def product(one, other):
        row = [0] * size
        if one[1] == other[0]:
            for e, number in enumerate(low.table[one[2]][other[2]]):
                row[places.index((one[0], other[1], e))] = number
        return tuple(row)

    return Ring(prime, tuple(tuple(product(one, other) for other in places) for one in places))


def low_ring(prime, size):
    """The ring of the one and of letters all of whose products are 0."""
    def product(i, j):
        return tuple(1 if (i == 0 and k == j) or (j == 0 and k == i) else 0 for k in range(size))

    return Ring(prime, tuple(tuple(product(i, j) for j in range(size)) for i in range(size)))


def plain_rings(prime):
    """Rings of many kinds over a prime, told as they are made."""
    field2, field3 = first_irreducible(prime, 2), first_irreducible(prime, 3)
    return [
        Ring.full(prime, 1), Ring.full(prime, 2), Ring.stairs(prime, 2), Ring.stairs(prime, 3),
        Ring.of_poly(prime, field2), Ring.of_poly(prime, field3), Ring.of_poly(prime, (0, 0, 1)),
        Ring.of_poly(prime, (0, 0, 0, 1)), Ring.of_poly(prime, poly_product(prime, field2, field2)),
        Ring.of_poly(prime, poly_product(prime, (0, 1), field2)), Ring.of_poly(prime, (0, prime - 1, 1)),
        Ring.of_moves(prime, ((1, 0, 2), (1, 2, 0))), Ring.of_moves(prime, ((1, 2, 3, 0),)),
        Ring.of_moves(prime, ((1, 0, 3, 2), (2, 3, 0, 1))), Ring.of_moves(prime, ((1, 2, 0),)),
        Ring.both(Ring.stairs(prime, 2), Ring.of_poly(prime, (0, 0, 1))),
        Ring.both(Ring.of_poly(prime, field2), Ring.full(prime, 1)), low_ring(prime, 4),
    ]


def great_rings(prime):
    """Rings of the size 8 and 9 over a prime."""
    field4, field5 = first_irreducible(prime, 4), first_irreducible(prime, 5)
    return [
        Ring.full(prime, 3), full_over(prime, first_irreducible(prime, 2), 2), full_over(prime, (0, 0, 1), 2),
        Ring.of_poly(prime, poly_product(prime, field4, field5)), Ring.of_poly(prime, (0,) * 9 + (1,)),
        Ring.both(Ring.stairs(prime, 2), Ring.stairs(prime, 3)), Ring.both(Ring.full(prime, 2), Ring.of_poly(prime, field5)),
        Ring.of_moves(prime, ((1, 2, 3, 0, 5, 6, 7, 4), (4, 7, 6, 5, 2, 1, 0, 3))),
        Ring.of_moves(prime, ((1, 2, 0, 3, 4, 5), (0, 1, 2, 4, 5, 3))), low_ring(prime, 9),
    ]


def turned(rings, seed):
    """The rings, opposite and told by other base members, by chance."""
    chance = random.Random(seed)
    return [rebased(opposite(ring), chance_table(ring.prime, ring.size, chance)) for ring in rings]


def all_rings(prime):
    """Rings of many kinds over a prime, as they are made and told by other base members."""
    rings = plain_rings(prime)
    return rings + turned(rings, prime)


def low_rings(prime, most):
    """Those of them that have at most so many members."""
    return [ring for ring in all_rings(prime) if ring.many <= most]


def some_rows(prime, width, count, seed):
    """Some rows of a width, by chance."""
    chance = random.Random(seed)
    return [tuple(chance.randrange(prime) for _ in range(width)) for _ in range(count)]
