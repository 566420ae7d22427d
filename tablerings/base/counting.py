"""Whole numbers and residues: powers, digits, and what undoes a residue."""


def powered(number, times):
    """The product of so many times a number."""
    value = 1
    for _ in range(times):
        value = value * number
    return value


def undone_number(prime, number):
    """The residue whose product with a residue other than 0 is 1."""
    return [other for other in range(1, prime) if number * other % prime == 1][0]


def digits(prime, count, number):
    """The last digits of a number to the base of a prime, the greatest place first."""
    found = []
    rest = number
    for _ in range(count):
        found.append(rest % prime)
        rest = rest // prime
    return tuple(found[::-1])
