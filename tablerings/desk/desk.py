"""Desks: they keep rooms over a ring by names, and sayings that are true of them at every time."""

from tablerings.base.checks import is_short_integer
from tablerings.desk.deeds import behind_deed, is_deed
from tablerings.desk.truths import is_saying, is_true_of, names_of
from tablerings.errors import InvalidNumber, InvalidOperation, NothingToUndo, Refused, TooMany, UnknownName
from tablerings.rings.rings import check_ring

MAX_NAME = 8
MAX_SAID = 20
MAX_WIDE = 12


class Desk:
    """A desk over a ring, without rooms and sayings at first.

    The dict from names to rooms and the tuple of the sayings are never changed, but others are put in their place; so
    moves keep what stood there ahead of them.
    """

    def __init__(self, ring):
        check_ring(ring)
        self._ring = ring
        self._kept = {}
        self._sayings = ()
        self._moves = []

    @property
    def ring(self):
        """The ring."""
        return self._ring

    @property
    def kept(self):
        """The dict from the names to the rooms."""
        return {name: self._kept[name] for name in self._kept}

    @property
    def sayings(self):
        """The sayings, as they were said."""
        return self._sayings

    @property
    def past(self):
        """The number of the moves that can be taken back."""
        return len(self._moves)

    def do(self, *deeds):
        """Do some deeds, unless a saying would not be true behind them."""
        for deed in deeds:
            if not is_deed(self._ring, deed, MAX_NAME, MAX_WIDE):
                raise InvalidOperation("no deed")
        kept = self._kept
        for at, deed in enumerate(deeds):
            kept = behind_deed(kept, deed, at, MAX_WIDE)
        check_sayings(self._sayings, self._kept, kept)
        self.move(kept, self._sayings)

    def say(self, saying):
        """Keep a saying."""
        if not is_saying(self._ring, saying, MAX_NAME):
            raise InvalidOperation("no saying")
        for name in names_of(saying):
            if name not in self._kept:
                raise UnknownName(name)
        if saying in self._sayings:
            return
        if len(self._sayings) >= MAX_SAID:
            raise TooMany(MAX_SAID)
        if not is_true_of(self._kept, saying):
            raise Refused(("false",))
        self.move(self._kept, self._sayings + (saying,))

    def unsay(self, saying):
        """Keep a saying no more."""
        # True is equal to 1, so the form is asked ahead.
        if not is_saying(self._ring, saying, MAX_NAME) or saying not in self._sayings:
            raise UnknownName(saying)
        self.move(self._kept, tuple([other for other in self._sayings if other != saying]))

    def is_true(self, value):
        """Whether a value is a saying, with names of the desk, that is true now."""
        if not is_saying(self._ring, value, MAX_NAME) or are_gone(self._kept, value):
            return False
        return is_true_of(self._kept, value)

    def undo(self, steps=1):
        """Take back the last moves."""
        if not is_short_integer(steps) or steps < 1:
            raise InvalidNumber(steps)
        if steps > len(self._moves):
            raise NothingToUndo(steps)
        self._kept, self._sayings = self._moves[-steps]
        self._moves = self._moves[:-steps]

    def twin(self):
        """Another desk with the same ring, rooms, sayings and moves."""
        other = Desk(self._ring)
        other._kept = self._kept
        other._sayings = self._sayings
        other._moves = self._moves
        return other

    def move(self, kept, sayings):
        """Put rooms and sayings in the place of those that are kept, unless they are equal."""
        if kept != self._kept or sayings != self._sayings:
            self._moves = self._moves + [(self._kept, self._sayings)]
            self._kept = kept
            self._sayings = sayings

    def __contains__(self, value):
        return isinstance(value, str) and value in self._kept

    def __getitem__(self, at):
        if at not in self:
            raise UnknownName(at)
        return self._kept[at]

    def __len__(self):
        return len(self._kept)

    def __iter__(self):
        return iter(self._kept)

    def __eq__(self, value):
        return (isinstance(value, Desk) and self._ring == value._ring and self._kept == value._kept
                and self._sayings == value._sayings)

    def __str__(self):
        return f"desk over a ring of size {self._ring.size}: {len(self._kept)} rooms, {len(self._sayings)} sayings"


def are_gone(kept, saying):
    """Whether some name in a saying stands for nothing."""
    return any([name not in kept for name in names_of(saying)])


def check_sayings(sayings, kept, made):
    """Refuse rooms of which some saying, which was true of those kept ahead of them, is not true."""
    for saying in sayings:
        if are_gone(made, saying):
            raise Refused(("taken", saying))
    for saying in sayings:
        # A saying about equal rooms is as true as it was.
        if any([kept[name] != made[name] for name in names_of(saying)]) and not is_true_of(made, saying):
            raise Refused(("broken", saying))
