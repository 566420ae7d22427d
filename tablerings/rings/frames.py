"""What is found of a ring once and kept with it: J, a parting, and least rooms as tables. Nothing is checked here."""

from tablerings.base.lanes import Echelon, Lanes, packed, summed
from tablerings.base.lines import at_places, is_within, leads_of, reduced, remainder, unit_rows
from tablerings.base.traces import trace_spaces_of
from tablerings.rings.corners import corner, corner_of, least_parts, rows_modulo, sum_of_all
from tablerings.rings.ideals import product_rows


class Frame:
    """A parting of a ring and what hangs on it; likenesses of least idempotents are told by their index.

    The attributes are: the parting; the lots of its like members; the dimension of the self maps of the least room of
    each likeness; the bases of the free rooms R e, e being the first member of each lot; their least rooms R e / J e,
    told by tables; and members that are, with J J, all of J.
    """

    def __init__(self, parting, lots, degrees, free, least, arrows):
        self.parting = parting
        self.lots = lots
        self.degrees = degrees
        self.free = free
        self.least = least
        self.arrows = arrows


def trace_spaces_kept(ring):
    """The spaces that are cut out by the traces of powers."""
    if "traces" not in ring.found:
        # The table of products with one base member ahead leads each base member to such a product.
        ring.found["traces"] = trace_spaces_of(ring.prime, ring.table)
    return ring.found["traces"]


def nil_of(ring):
    """The space J."""
    return trace_spaces_kept(ring)[-1]


def nil_square(ring):
    """The space J J."""
    return reduced(ring.prime, product_rows(ring, nil_of(ring), nil_of(ring)))


def arrow_rows(ring, square, one, other):
    """Members of J between two idempotents that are, with those of J J there, all of them."""
    return rows_modulo(ring.prime, corner_of(ring, square, one, other), corner_of(ring, nil_of(ring), one, other))


def lots_of(ring, nil, parts):
    """The lots of like members of a parting."""
    lots = []
    for part in parts:
        like = [lot for lot in lots if not is_within(ring.prime, nil, corner(ring, lot[0], part))]
        if like:
            like[0].append(part)
        else:
            lots.append([part])
    return tuple([tuple(lot) for lot in lots])


def products_before(ring, rows, member):
    """The space of all sums of products of some members and one member behind them."""
    return reduced(ring.prime, [ring.bare_product(row, member) for row in rows])


def least_tables(ring, free, low):
    """The tables by which the base members lead the classes of a left ideal modulo a lower one."""
    gone = leads_of(low)
    places = [at for at in leads_of(free) if at not in gone]
    # Each class has one row that is 0 at the leads of the lower ideal; it is told by its residues at the other leads.
    rows = [row for row, at in zip(free, leads_of(free)) if at in places]
    tables = []
    for unit in unit_rows(ring.size):
        made = [remainder(ring.prime, low, ring.bare_product(unit, row)) for row in rows]
        tables.append(tuple([at_places(row, places) for row in made]))
    return tuple(tables)


def made_frame(ring):
    """The frame of a ring."""
    nil = nil_of(ring)
    units = unit_rows(ring.size)
    parts = least_parts(ring, nil, ring.one)
    lots = lots_of(ring, nil, parts)
    heads = [lot[0] for lot in lots]
    free = tuple([products_before(ring, units, head) for head in heads])
    low = [products_before(ring, nil, head) for head in heads]
    degrees = [len(corner(ring, head, head)) - len(corner_of(ring, nil, head, head)) for head in heads]
    least = tuple([least_tables(ring, high, below) for high, below in zip(free, low)])
    return Frame(parts, lots, tuple(degrees), free, least, tuple(rows_modulo(ring.prime, nil_square(ring), nil)))


def frame_of(ring):
    """The frame of a ring, found once."""
    if "frame" not in ring.found:
        ring.found["frame"] = made_frame(ring)
    return ring.found["frame"]


def lines_of_least(ring):
    """For each least room and each of its base vectors the numbers of what the base members lead it to."""
    if "lines" not in ring.found:
        least = frame_of(ring).least
        ring.found["lines"] = [[[packed(table[at]) for table in tables] for at in range(len(tables[0]))]
                               for tables in least]
    return ring.found["lines"]


def rank_in(prime, lines, member):
    """The dimension of what a member leads to in a least room."""
    size = len(lines)
    lanes = Lanes(prime, size)
    found = Echelon(prime, size)
    found.take_all([lanes.settled(summed(member, line)) for line in lines])
    return len(found.rows)


def least_numbers(ring, member):
    """How many least idempotents of each likeness add up, with the products 0, to an idempotent."""
    degrees = frame_of(ring).degrees
    return [rank_in(ring.prime, lines, member) // degree for lines, degree in zip(lines_of_least(ring), degrees)]


def blocks_of(ring):
    """The ascending lots of the indices of likenesses that hang together by products other than 0."""
    heads = [lot[0] for lot in frame_of(ring).lots]
    names = list(range(len(heads)))
    for one, ahead in enumerate(heads):
        for other, behind in enumerate(heads):
            if names[one] != names[other] and corner(ring, ahead, behind):
                old = names[other]
                names = [names[one] if name == old else name for name in names]
    lots = [tuple([at for at, some in enumerate(names) if some == name]) for name in sorted(set(names))]
    return tuple(sorted(lots))


def central_sums(ring):
    """The sums of the members of the parting that hang together, ascending."""
    lots = frame_of(ring).lots
    members = [[member for at in block for member in lots[at]] for block in blocks_of(ring)]
    return tuple(sorted([sum_of_all(ring, some) for some in members]))
