"""Whether values have the form that is asked for."""

from tablerings.base.lines import at_places, leads_of, unit_rows
from tablerings.errors import InvalidNumber, InvalidOperation

PRIMES = (2, 3, 5, 7)
LONGER = 10 ** 60


def is_integer(value):
    """Whether a value is an integer; True and False are none."""
    return isinstance(value, int) and not isinstance(value, bool)


def is_from_to(value, least, most):
    """Whether a value is an integer between two others."""
    return is_integer(value) and least <= value <= most


def is_short_integer(value):
    """Whether a value is an integer of at most sixty digits."""
    return is_integer(value) and -LONGER < value < LONGER


def is_row(prime, width, value):
    """Whether a value is a row of the width."""
    if not isinstance(value, tuple) or len(value) != width:
        return False
    for number in value:
        if not isinstance(number, int) or number is True or number is False or not 0 <= number < prime:
            return False
    return True


def are_rows(prime, width, value, most):
    """Whether a value is a tuple of at most so many rows of the width."""
    if not isinstance(value, tuple) or len(value) > most:
        return False
    for row in value:
        if not is_row(prime, width, row):
            return False
    return True


def is_square(prime, count, value):
    """Whether a value is a table of so many rows of as many residues."""
    return are_rows(prime, count, value, count) and len(value) == count


def is_base(prime, width, value):
    """Whether a value is the reduced base of a space of rows of the width."""
    if not are_rows(prime, width, value, width):
        return False
    leads = leads_of(value)
    if width in leads or not all([one < other for one, other in zip(leads, leads[1:])]):
        return False
    # What stands at the leads tells both the 1 and the 0s that are asked for.
    return tuple([at_places(row, leads) for row in value]) == unit_rows(len(leads))


def check_prime(prime):
    """Refuse what is not one of the four primes."""
    if not is_integer(prime) or prime not in PRIMES:
        raise InvalidNumber(prime)


def check_from_to(number, least, most):
    """Refuse what is no integer between two others."""
    if not is_from_to(number, least, most):
        raise InvalidNumber(number)


def check_word(word, words):
    """Refuse what is none of some words."""
    if not isinstance(word, str) or word not in words:
        raise InvalidOperation("none of the words that can stand here")
