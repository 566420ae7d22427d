"""Powers that settle: whether one of them is 0, and which one is an idempotent. Nothing is checked here."""

from math import lcm

from tablerings.base.counting import powered
from tablerings.base.lines import zero_row


def has_power_zero(ring, member):
    """Whether some power of a member is 0."""
    # The powers ahead of the first one that is 0 are independent, so there are no more of them than base members.
    return ring.power(member, ring.size) == zero_row(ring.size)


def settling_number(ring):
    """A number above 1 such that each member, multiplied by itself so many times, is an idempotent."""
    # A member has a part with a power 0 and a part that is a unit of an ideal. The first one is gone at a power of the
    # prime that is not below the size. To this power the second one is a sum of members of fields, none of which has
    # more base members than the ring, so the orders of the units of these fields lead it to an idempotent.
    number = ring.prime
    while number < ring.size:
        number = number * ring.prime
    orders = 1
    for degree in range(1, ring.size + 1):
        orders = lcm(orders, powered(ring.prime, degree) - 1)
    return number * orders


def settler(ring, makers, member):
    """A member whose product with the given one is an idempotent other than 0.

    It is found by a maker whose product with the given member has no power 0, and None if there is no such maker.
    """
    for maker in makers:
        product = ring.product(maker, member)
        if not has_power_zero(ring, product):
            return ring.product(ring.power(product, settling_number(ring) - 1), maker)
    return None
