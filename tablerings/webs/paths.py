"""The paths of webs, and the ideals that sums of paths make. Nothing is checked here.

A path is a pair of its start and of the tuple of its arrows, each told by its index; the arrows of a web are the pairs
of their start and end. Sums of paths are told by rows, in the sequence of the paths of the web.
"""

from tablerings.base.lanes import Echelon, packed, unpacked
from tablerings.base.lines import at_places, unit_row, zero_row


class Web:
    """The arrows of a web, its paths with fewer arrows than a depth, and the dict from the paths to their places."""

    def __init__(self, arrows, paths):
        self.arrows = arrows
        self.paths = paths
        self.spots = {path: at for at, path in enumerate(paths)}


def end_of(arrows, path):
    """The point at which a path ends."""
    return arrows[path[1][-1]][1] if path[1] else path[0]


def longer_paths(arrows, paths):
    """The paths with one more arrow behind some paths."""
    return [(path[0], path[1] + (at,))
            for path in paths for at, arrow in enumerate(arrows) if arrow[0] == end_of(arrows, path)]


def web_of(points, arrows, depth, most):
    """A web; if there are more paths than the most, some more than these."""
    fresh = [(point, ()) for point in range(points)]
    paths = []
    for _ in range(depth):
        if len(paths) <= most:
            paths.extend(fresh)
            fresh = longer_paths(arrows, fresh)
    return Web(arrows, paths)


def sum_row(web, word):
    """The row of a word; paths that the web does not have are 0."""
    row = [0] * len(web.paths)
    for walk in word:
        path = (web.arrows[walk[0]][0], walk)
        if path in web.spots:
            row[web.spots[path]] = word[walk]
    return tuple(row)


def sources_of(web):
    """For each arrow and both sides the place of the path that it leads, put ahead or behind, to each path.

    Where there is none, it is the place behind the last path.
    """
    nowhere = len(web.paths)
    sources = []
    for at, arrow in enumerate(web.arrows):
        sources.append([web.spots[(arrow[1], path[1][1:])] if path[1][:1] == (at,) else nowhere for path in web.paths])
        sources.append([web.spots[(path[0], path[1][:-1])] if path[1][-1:] == (at,) else nowhere for path in web.paths])
    return sources


def ideal_of(prime, web, rows):
    """The echelon of the least ideal that has some sums of paths, each of paths with one start and one end."""
    found, sources = Echelon(prime, len(web.paths)), sources_of(web)
    waiting = list(rows)
    while waiting:
        row = waiting.pop()
        if found.take(packed(row)):
            # Behind the row stands what comes from nowhere.
            waiting.extend([at_places(row + (0,), places) for places in sources])
    return found


def free_spots(web, ideal):
    """The places of the paths that are no leads of an ideal, ascending."""
    last = len(web.paths) - 1
    return [at for at in range(len(web.paths)) if last - at not in ideal.rows]


def path_product(arrows, one, other):
    """The path that follows two paths, or None if the second one does not start where the first one ends."""
    if end_of(arrows, one) != other[0]:
        return None
    return (one[0], one[1] + other[1])


def products_modulo(prime, web, ideal):
    """The table of the products of the paths at the free places of an ideal, modulo it."""
    count, free = len(web.paths), free_spots(web, ideal)
    done, paths = ideal.reduced(count), [web.paths[at] for at in free]

    def class_row(path):
        """The row of the class of a path; what is no path of the web is 0."""
        if path not in web.spots:
            return zero_row(len(free))
        lane = count - 1 - web.spots[path]
        if lane not in done:
            return unit_row(len(free), free.index(web.spots[path]))
        return tuple([-number % prime for number in at_places(unpacked(count, done[lane]), free)])

    return tuple([tuple([class_row(path_product(web.arrows, one, other)) for other in paths]) for one in paths])
