"""Rows as whole numbers: each residue has a lane of 24 bits, the first one on top. Nothing is checked here.

Sums of rows are sums of such numbers. A lane has room for the sum of 150 products of two residues, and one residue
more, before what it holds has to be taken modulo the prime again.
"""

LANE = 24
FULL_LANE = 16777216
MOST_TERMS = 150
DIGITS = ("0", "1", "2", "3", "4", "5", "6")
RESIDUES = {"0": 0, "1": 1, "2": 2, "3": 3, "4": 4, "5": 5, "6": 6}
# A lane divided by the prime is the upper part of its product with a factor; no sum as above is too great for this.
SHIFT = 14
FACTORS = {3: 5462, 5: 3277, 7: 2341}
MASKS = {2: "000001", 3: "0003ff", 5: "0003ff", 7: "0003ff"}
UNDONE = {2: (0, 1), 3: (0, 1, 2), 5: (0, 1, 3, 2, 4), 7: (0, 1, 4, 5, 2, 3, 6)}


def packed(row):
    """The number of a row."""
    return int("0" + "00000".join([DIGITS[residue] for residue in row]), 16)


def unpacked(width, number):
    """The row of a number whose lanes hold residues."""
    text = f"{number:x}".zfill(6 * width)
    return tuple([RESIDUES[digit] for digit in text[5::6]])


def joined(width, numbers):
    """The number of some rows of one width, one behind the other."""
    total = 0
    for number in numbers:
        total = (total << width * LANE) + number
    return total


def summed(numbers, lines):
    """The sum of some lines, each multiplied by its number; what the lanes hold has still to be taken modulo."""
    total = 0
    for number, line in zip(numbers, lines):
        if number:
            total += number * line
    return total


class Lanes:
    """What takes the lanes of the numbers of one width modulo a prime."""

    def __init__(self, prime, width):
        self.modulus = prime
        self.width = width
        self.mask = int("0" + MASKS[prime] * width, 16)

    def settled(self, number):
        """The number with the residue of what it holds in each lane."""
        if self.modulus == 2:
            return number & self.mask
        return number - self.modulus * ((number * FACTORS[self.modulus] >> SHIFT) & self.mask)

    def led(self, lines, row):
        """The number of the row to which a table, told by the numbers of its rows, leads a row."""
        return self.settled(summed(row, lines))


class Echelon:
    """Rows with unlike leads, to which further ones are added; a lead is told by its lane, the last lane being 0."""

    def __init__(self, prime, width):
        self.lanes = Lanes(prime, width)
        self.rows = {}

    def rest(self, number):
        """The number less multiples of the rows, as far as the first lead that none of them has."""
        rows, lanes = self.rows, self.lanes
        while number:
            at = number.bit_length() // LANE
            if at not in rows:
                return number
            number = lanes.settled(number + (lanes.modulus - (number >> at * LANE)) * rows[at])
        return 0

    def take(self, number):
        """Add the number of a row, and tell whether the rows that were there do not add up to it."""
        found = self.rest(number)
        if not found:
            return False
        at = found.bit_length() // LANE
        self.rows[at] = self.lanes.settled(found * UNDONE[self.lanes.modulus][found >> at * LANE])
        return True

    def take_all(self, numbers):
        """Add the numbers of some rows."""
        for number in numbers:
            # If each lane is a lead, there is nothing that could be added.
            if len(self.rows) == self.lanes.width:
                return
            self.take(number)

    def cleared(self, rows, number):
        """The number less multiples of rows, each with 0 at the leads of the others, so that it has 0 there, too."""
        prime, total, terms = self.lanes.modulus, number, 0
        for at in rows:
            lead = (number >> at * LANE) % FULL_LANE
            if lead:
                total += (prime - lead) * rows[at]
                terms += 1
                if terms == MOST_TERMS:
                    total = self.lanes.settled(total)
                    terms = 0
        return self.lanes.settled(total)

    def reduced(self, lanes):
        """The dict from leads to rows each of which has 0 at the leads of the others; only leads below some lanes."""
        done = {}
        # From the last lead back, each row meets only rows that are reduced already.
        for at in sorted(self.rows):
            if at < lanes:
                done[at] = self.cleared(done, self.rows[at])
        return done

    def base(self, lanes):
        """The reduced base of the sums of the rows with leads below some lanes, as rows of so many residues."""
        done = self.reduced(lanes)
        return tuple([unpacked(lanes, done[at]) for at in sorted(done, reverse=True)])
