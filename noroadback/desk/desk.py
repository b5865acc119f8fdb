"""A desk of turners with names, and of sayings about them that are always true."""

from noroadback.base.integers import is_passed
from noroadback.base.words import check_letters
from noroadback.desk.forms import asked_names, is_deed, is_saying, said_names
from noroadback.desk.truths import images_made, is_true_of
from noroadback.errors import InvalidNumber, InvalidOperation, NothingToUndo, Refused, TooMany, UnknownName
from noroadback.turns.turners import turner_made

MAX_NAME = 8
MAX_SAID = 20
MAX_LONG = 60


def done(kept, deed, index):
    """The dict from names to turners behind a deed, which has an index."""
    for name in asked_names(deed):
        if name not in kept:
            raise UnknownName(name)
    found = {name: turner for name, turner in kept.items() if name != deed[1]}
    if deed[0] != "take":
        images = images_made(kept, deed, MAX_LONG)
        if images is None:
            raise Refused(("long", index))
        found[deed[1]] = turner_made(images)
    return found


def check_sayings(kept, sayings):
    """Refuse turners with names of which not all sayings are true."""
    for saying in sayings:
        if not all([name in kept for name in said_names(saying)]):
            raise Refused(("taken", saying))
    for saying in sayings:
        if not is_true_of(kept, saying):
            raise Refused(("broken", saying))


class Desk:
    """Turners of so many letters by names, and sayings about them that are always true. It changes."""

    def __init__(self, letters):
        check_letters(letters)
        self._letters = letters
        # A dict that stands here is never changed, but exchanged: so it can be kept for moves and for twins.
        self._kept = {}
        self._sayings = ()
        self._before = []

    @property
    def letters(self):
        """The number of letters."""
        return self._letters

    @property
    def kept(self):
        """The dict from the names to the turners."""
        return dict(self._kept)

    @property
    def sayings(self):
        """The tuple of the sayings, in the sequence in which they were said."""
        return self._sayings

    @property
    def past(self):
        """The number of the moves that can be taken back."""
        return len(self._before)

    def do(self, *deeds):
        """Do deeds, one after the other, if all sayings are true behind the last one."""
        if not all([is_deed(self._letters, deed) for deed in deeds]):
            raise InvalidOperation("no deed")
        kept = self._kept
        for index, deed in enumerate(deeds):
            kept = done(kept, deed, index)
        check_sayings(kept, self._sayings)
        self._move_to(kept, self._sayings)

    def say(self, saying):
        """Keep a saying that is true."""
        if not is_saying(self._letters, saying):
            raise InvalidOperation("no saying")
        for name in said_names(saying):
            if name not in self._kept:
                raise UnknownName(name)
        if saying in self._sayings:
            return
        if len(self._sayings) == MAX_SAID:
            raise TooMany(MAX_SAID)
        if not is_true_of(self._kept, saying):
            raise Refused(("false",))
        self._move_to(self._kept, (*self._sayings, saying))

    def unsay(self, saying):
        """Keep a saying no more."""
        if not is_saying(self._letters, saying) or saying not in self._sayings:
            raise UnknownName(saying)
        self._move_to(self._kept, tuple([other for other in self._sayings if other != saying]))

    def is_true(self, value):
        """Whether the value is a saying, with names of the desk, that is true now."""
        if not is_saying(self._letters, value) or not all([name in self._kept for name in said_names(value)]):
            return False
        return is_true_of(self._kept, value)

    def undo(self, steps=1):
        """Take the last moves back."""
        if not is_passed(steps) or steps < 1:
            raise InvalidNumber(steps)
        if steps > len(self._before):
            raise NothingToUndo(steps)
        self._kept, self._sayings = self._before[-steps]
        self._before = self._before[:-steps]

    def twin(self):
        """Another desk with the same turners, sayings and moves."""
        other = Desk(self._letters)
        other._kept = self._kept
        other._sayings = self._sayings
        other._before = list(self._before)
        return other

    def _move_to(self, kept, sayings):
        """Have these turners and sayings from now on, and make a move of it if they are other ones."""
        if kept != self._kept or sayings != self._sayings:
            self._before.append((self._kept, self._sayings))
            self._kept = {name: kept[name] for name in sorted(list(kept))}
            self._sayings = sayings

    def __contains__(self, name):
        """Whether the value is a name of the desk."""
        return isinstance(name, str) and name in self._kept

    def __getitem__(self, name):
        """The turner with a name."""
        if not isinstance(name, str) or name not in self._kept:
            raise UnknownName(name)
        return self._kept[name]

    def __len__(self):
        """The number of the turners."""
        return len(self._kept)

    def __iter__(self):
        """Iterate over the names, ascending."""
        return iter(self._kept)

    def __eq__(self, other):
        """Whether the value is a desk with as many letters, equal turners by the same names, and the same sayings."""
        if not isinstance(other, Desk) or self._letters != other._letters:
            return False
        return self._kept == other._kept and self._sayings == other._sayings

    def __str__(self):
        return f"desk of {self._letters} letters: {len(self._kept)} turners, {len(self._sayings)} sayings"
