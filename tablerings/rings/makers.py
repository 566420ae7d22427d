"""Tables of products of full tables, groups, polynomials and pairs. Nothing is checked here."""

from tablerings.base.lines import unit_row, zero_row
from tablerings.base.polywork import rest_of_poly, widened


def full_places(side):
    """The places of a full table, ascending."""
    return [(row, column) for row in range(side) for column in range(side)]


def stairs_places(side):
    """The places of a full table at and above those with equal indices, ascending."""
    return [(row, column) for row in range(side) for column in range(row, side)]


def place_product(places, one, other):
    """The product of the tables that have 1 at one place and 0 elsewhere."""
    if one[1] != other[0]:
        return zero_row(len(places))
    return unit_row(len(places), places.index((one[0], other[1])))


def table_of_places(places):
    """The table of products for tables that are 0 but at some places."""
    return tuple([tuple([place_product(places, one, other) for other in places]) for one in places])


def one_of_places(places):
    """The table that has 1 at the places with equal indices and 0 elsewhere."""
    return tuple([1 if row == column else 0 for row, column in places])


def is_renaming(value, count):
    """Whether a tuple of integers has each of the integers below a count once."""
    return sorted(value) == list(range(count))


def moved(one, other):
    """The product of two renamings: a place is led by the second one, then by the first one."""
    return tuple([one[place] for place in other])


def group_of(moves, most):
    """The products of some renamings, ascending; if there are more than the most, some more than these."""
    fresh = [tuple(range(len(moves[0])))]
    found = {fresh[0]: True}
    while fresh and len(found) <= most:
        grown = []
        # A copy is walked, as the list that grows here is the one that is walked next.
        for old in list(fresh):
            for move in moves:
                product = moved(old, move)
                if product not in found:
                    found[product] = True
                    grown.append(product)
        fresh = grown
    return sorted(found)


def table_of_group(group):
    """The table of products of a group of renamings, which are its base members."""
    places = {move: at for at, move in enumerate(group)}
    size = len(group)
    return tuple([tuple([unit_row(size, places[moved(one, other)]) for other in group]) for one in group])


def table_of_poly(prime, poly):
    """The table of products of the powers of a letter modulo a monic polynomial."""
    size = len(poly) - 1
    powers = [widened(rest_of_poly(prime, unit_row(at + 1, at), poly), size) for at in range(2 * size - 1)]
    return tuple([tuple([powers[one + other] for other in range(size)]) for one in range(size)])


def table_of_both(one, other):
    """The table of products of pairs, made place by place."""
    behind = zero_row(len(other))
    ahead = zero_row(len(one))
    low = [tuple([row + behind for row in rows]) + (ahead + behind,) * len(other) for rows in one]
    high = [(ahead + behind,) * len(one) + tuple([ahead + row for row in rows]) for rows in other]
    return tuple(low + high)
