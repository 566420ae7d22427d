"""Webs that the tests use, and slow ways to what is said of them."""

import itertools
import random

from tablerings.base.lines import reduced, remainder
from tablerings.rings.rings import Ring
from tests.samples import multiplied


def end_of(arrows, path):
    """The point at which a path ends."""
    return arrows[path[1][-1]][1] if path[1] else path[0]


def all_paths(points, arrows, depth):
    """All paths with fewer arrows than the depth, by their numbers of arrows, then ascending."""
    found = []
    for count in range(depth):
        level = []
        for start in range(points):
            for walk in itertools.product(range(len(arrows)), repeat=count) if count < 4 else walks(arrows, count):
                stops = [start] + [arrows[at][1] for at in walk]
                if all(arrows[at][0] == stop for at, stop in zip(walk, stops)):
                    level.append((start, walk))
        found += sorted(level)
    return found


def walks(arrows, count):
    """The tuples of so many arrows, each of which starts where the one ahead of it ends."""
    if count == 0:
        return [()]
    return [walk + (at,) for walk in walks(arrows, count - 1) for at in range(len(arrows))
            if not walk or arrows[walk[-1]][1] == arrows[at][0]]


def path_number(points, arrows, depth):
    """How many paths have fewer arrows than the depth."""
    ends, total = [1] * points, 0
    for _ in range(depth):
        total += sum(ends)
        ends = [sum(ends[start] for start, end in arrows if end == point) for point in range(points)]
    return total


def joined(arrows, one, other):
    """The path that follows two paths, or None."""
    return (one[0], one[1] + other[1]) if end_of(arrows, one) == other[0] else None


def ideal_by_words(prime, arrows, words, paths):
    """The base of the least ideal of both sides that has all words: all products of a path, a word and a path."""
    places, rows = {path: at for at, path in enumerate(paths)}, []
    for word in words:
        for before, behind in itertools.product(paths, repeat=2):
            row = [0] * len(paths)
            for walk, number in word.items():
                first = joined(arrows, before, (arrows[walk[0]][0], walk))
                made = first and joined(arrows, first, behind)
                if made in places:
                    row[places[made]] = number
            if any(row):
                rows.append(tuple(row))
    return reduced(prime, rows)


def web_by_words(prime, points, arrows, words, depth):
    """The table of the ring of a web, and the paths of its base."""
    paths = all_paths(points, arrows, depth)
    ideal = ideal_by_words(prime, arrows, words, paths)
    leads = [next(at for at, number in enumerate(row) if number) for row in ideal]
    free = [at for at in range(len(paths)) if at not in leads]

    def product(one, other):
        made = joined(arrows, one, other)
        row = [0] * len(paths)
        if made in paths:
            row[paths.index(made)] = 1
        rest = remainder(prime, ideal, tuple(row))
        return tuple(rest[at] for at in free)

    base = [paths[at] for at in free]
    return tuple(tuple(product(one, other) for other in base) for one in base), tuple(base)


def webs(prime):
    """Webs that are known: no arrows, loops, rounds, words that are longer than the depth, words of unlike lengths."""
    minus = prime - 1
    return [
        (1, (), (), 2), (4, (), (), 10), (9, (), (), 2), (1, ((0, 0),), (), 2), (1, ((0, 0),), (), 9),
        (1, ((0, 0),), ({(0, 0): 1, (0, 0, 0): minus},), 10), (1, ((0, 0),), ({(0,) * 9: 1},), 10),
        (1, ((0, 0),), ({(0,) * 7: 1},), 5), (1, ((0, 0), (0, 0)), (), 2), (1, ((0, 0), (0, 0)), ({(0, 0): 1}, {(1, 1): 1}, {(0, 1): 1, (1, 0): 1}), 3),
        (1, ((0, 0), (0, 0)), ({(0, 0): 1}, {(1, 1): 1}, {(0, 1): 1, (1, 0): minus}), 4),
        (1, ((0, 0), (0, 0)), ({(0, 1): 1}, {(1, 0): 1}, {(0, 0): 1, (1, 1, 1): minus}), 6),
        (1, ((0, 0), (0, 0)), ({(0, 1): 1}, {(1, 0): 1}), 4),
        (2, ((0, 1),), (), 2), (2, ((0, 1),), (), 7), (2, ((0, 1), (0, 1)), (), 3), (2, ((0, 1), (1, 0)), (), 2),
        (2, ((0, 1), (1, 0)), ({(0, 1): 1},), 4), (2, ((0, 1), (1, 0)), ({(0, 1): 1}, {(1, 0): 1}), 9),
        (2, ((0, 1), (1, 0)), ({(0, 1, 0): 1}, {(1, 0, 1): 1}), 5), (2, ((0, 0), (0, 1)), ({(0, 0): 1},), 6), (2, ((0, 0), (1, 1)), ({(0, 0): 1},), 3),
        (2, ((0, 0), (0, 1)), ({(0, 1): 1}, {(0, 0): 1, (0, 0, 0): 1}), 5), (3, ((0, 1), (1, 2)), (), 3), (3, ((0, 1), (1, 2)), ({(0, 1): minus},), 3),
        (3, ((0, 1), (0, 2)), (), 2), (3, ((0, 2), (1, 2)), (), 5), (3, ((0, 1), (1, 2), (2, 0)), (), 2), (3, ((0, 1), (1, 2), (2, 0)), (), 3),
        (4, ((0, 1), (1, 3), (0, 2), (2, 3)), ({(0, 1): 1, (2, 3): minus},), 3), (4, ((0, 1), (2, 3)), (), 4),
        (1, ((0, 0),) * 3, tuple({(at, by): 1} for at in (1, 2) for by in range(3)) + tuple({(0, 0, by): 1} for by in range(3)), 4),
        (2, ((0, 1), (1, 1)), ({(1, 1): 1}, {(0, 1): 1}), 3), (3, ((2, 1), (1, 0)), (), 3),
    ]


def chance_webs(prime, count, seed):
    """Webs by chance with at most sixty paths."""
    chance, found = random.Random(seed), []
    while len(found) < count:
        points, depth = chance.randrange(1, 4), chance.randrange(2, 6)
        arrows = tuple((chance.randrange(points), chance.randrange(points)) for _ in range(chance.randrange(1, 4)))
        if path_number(points, arrows, depth) > 60:
            continue
        paths = [path for path in all_paths(points, arrows, depth + 1) if len(path[1]) > 1]
        words = []
        for _ in range(chance.randrange(4)):
            if paths:
                first = chance.choice(paths)
                like = [path for path in paths if path[0] == first[0] and end_of(arrows, path) == end_of(arrows, first)]
                some = chance.sample(like, min(len(like), chance.randrange(1, 4)))
                words.append({walk: chance.randrange(1, prime) for _, walk in some})
        found.append((points, arrows, tuple(words), depth))
    return found


def long_line(prime, size):
    """The ring of a letter x the power of which by size - 1 is 0, and of a letter y all of whose products with letters are 0."""
    def product(i, j):
        row = [0] * size
        if i == 0 or j == 0:
            row[i + j] = 1
        elif i < size - 1 and j < size - 1 and i + j < size - 1:
            row[i + j] = 1
        return tuple(row)

    return Ring(prime, tuple(tuple(product(i, j) for j in range(size)) for i in range(size)))


def members_of_paths(ring, some, told, paths):
    """The products of the members in the place of the arrows of some paths."""
    found = []
    for start, walk in paths:
        member = some[start]
        for at in walk:
            member = multiplied(ring, member, told[at][2])
        found.append(member)
    return found
