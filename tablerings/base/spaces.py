"""Rows, tables and spaces over the residues of a prime."""

from tablerings.base.checks import are_rows, check_from_to, check_prime, is_base, is_row
from tablerings.base.lines import (
    combined, is_within, kernel_rows, meet_rows, reduced, row_product, rows_followed, rows_turned, solved, undone_rows,
)
from tablerings.errors import InvalidOperation, InvalidRow, InvalidSpace, InvalidTable, Refused, TooMany

MAX_WIDTH = 150
MAX_ROWS = 200


def check_width(width):
    """Refuse what is no width."""
    check_from_to(width, 1, MAX_WIDTH)


def check_row(prime, width, row):
    """Refuse what is no row of the width."""
    if not is_row(prime, width, row):
        raise InvalidRow("no row of the width")


def check_space(prime, width, space):
    """Refuse what is no space of rows of the width."""
    if not is_base(prime, width, space):
        raise InvalidSpace("no reduced base of a space of the width")


def check_table(prime, table):
    """Refuse what is no table."""
    if not is_any_table(prime, table):
        raise InvalidTable("no table")


def is_any_table(prime, value):
    """Whether a value is a table, the prime being one."""
    if not isinstance(value, tuple) or not value or not isinstance(value[0], tuple):
        return False
    return 1 <= len(value[0]) <= MAX_WIDTH and are_rows(prime, len(value[0]), value, MAX_ROWS)


def space_of(prime, width, rows):
    """The space of all sums of multiples of some rows."""
    check_prime(prime)
    check_width(width)
    if not are_rows(prime, width, rows, MAX_ROWS):
        raise InvalidRow("no tuple of at most 200 rows of the width")
    return reduced(prime, rows)


def is_space(prime, width, value):
    """Whether a value is a space of the width, told by its reduced base."""
    check_prime(prime)
    check_width(width)
    return is_base(prime, width, value)


def does_hold(prime, width, space, row):
    """Whether a row is in a space."""
    check_prime(prime)
    check_width(width)
    check_space(prime, width, space)
    check_row(prime, width, row)
    return is_within(prime, space, (row,))


def check_spaces(prime, width, one, other):
    """Refuse two spaces of the width, unless they are such."""
    check_prime(prime)
    check_width(width)
    check_space(prime, width, one)
    check_space(prime, width, other)


def space_sum(prime, width, one, other):
    """The space of all sums of a row of the one and a row of the other space."""
    check_spaces(prime, width, one, other)
    return reduced(prime, one + other)


def space_meet(prime, width, one, other):
    """The space of the rows that are in both spaces."""
    check_spaces(prime, width, one, other)
    return meet_rows(prime, width, one, other)


def is_table(prime, value):
    """Whether a value is a table."""
    check_prime(prime)
    return is_any_table(prime, value)


def led(prime, table, row):
    """The row to which a table leads a row."""
    check_prime(prime)
    check_table(prime, table)
    check_row(prime, len(table), row)
    return combined(prime, len(table[0]), row, table)


def followed(prime, one, other):
    """One table followed by another one."""
    check_prime(prime)
    check_table(prime, one)
    check_table(prime, other)
    if len(one[0]) != len(other):
        raise InvalidOperation("the first table leads to rows that the second one does not lead on")
    return rows_followed(prime, one, other)


def kernel(prime, table):
    """The space of the rows that a table leads to 0."""
    check_prime(prime)
    check_table(prime, table)
    if len(table) > MAX_WIDTH:
        raise TooMany(MAX_WIDTH)
    return kernel_rows(prime, table)


def image(prime, table):
    """The space of the rows to which a table leads a row."""
    check_prime(prime)
    check_table(prime, table)
    return reduced(prime, table)


def check_task(prime, table, row):
    """Refuse a table and a row of its width, unless they are such."""
    check_prime(prime)
    check_table(prime, table)
    check_row(prime, len(table[0]), row)


def solution(prime, table, row):
    """A row that a table leads to the given one, or None."""
    check_task(prime, table, row)
    return solved(prime, table, row)


def is_solution(prime, table, row, value):
    """Whether a value is a row that a table leads to the given one."""
    check_task(prime, table, row)
    if not is_row(prime, len(table), value):
        return False
    return combined(prime, len(row), value, table) == row


def bar(prime, table, row):
    """A row that tells that the table leads no row to the given one, or None."""
    check_task(prime, table, row)
    for found in kernel_rows(prime, rows_turned(table)):
        if row_product(prime, found, row):
            return found
    return None


def is_bar(prime, table, row, value):
    """Whether a value has the product 0 with each row of a table, and another one with the row."""
    check_task(prime, table, row)
    if not is_row(prime, len(row), value) or row_product(prime, value, row) == 0:
        return False
    return not any([row_product(prime, value, line) for line in table])


def undone_table(prime, table):
    """The table that undoes a square one."""
    check_prime(prime)
    check_table(prime, table)
    if len(table) != len(table[0]):
        raise InvalidOperation("only a square table can be undone")
    found = undone_rows(prime, table)
    if found is None:
        raise Refused(("singular",))
    return found
