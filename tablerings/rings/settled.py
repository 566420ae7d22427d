"""Powers of a member: whether one of them is 0, and which sum of them is an idempotent. Nothing is checked here."""

from tablerings.base.lines import combined, solved, unit_rows, zero_row


def has_power_zero(ring, member):
    """Whether some power of a member is 0."""
    # The powers ahead of the first one that is 0 are independent, so there are no more of them than base members.
    return ring.bare_power(member, ring.size) == zero_row(ring.size)


def settled_power(ring, member):
    """A sum of powers, that of none among them, whose product with a member that has no power 0 is an idempotent."""
    size = ring.size
    powers = [ring.one]
    for _ in range(size):
        powers.append(ring.bare_product(powers[-1], member))
    # The member is undone on what its last power leads to by some sum of its powers; this sum times the member leaves
    # all of that and has a power 0 beside it.
    rows = [ring.bare_product(power, powers[-1]) for power in powers[1:]]
    numbers = solved(ring.prime, rows, powers[-1])
    undoing = combined(ring.prime, size, numbers, powers)
    lasting = ring.bare_product(undoing, member)
    return ring.bare_product(ring.bare_power(lasting, size - 1), undoing)


def settler(ring, member):
    """A member whose product with the given one is an idempotent other than 0, or None if the given one is in J."""
    # If all base members led to a power 0, the traces of [5.2] would be such that the member is in J.
    for maker in unit_rows(ring.size):
        product = ring.bare_product(maker, member)
        if not has_power_zero(ring, product):
            return ring.bare_product(settled_power(ring, product), maker)
    return None
