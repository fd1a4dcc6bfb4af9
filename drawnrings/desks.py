"""Desks: scripts under names, and wishes that hold after each change."""

from drawnrings.errors import Broken, InUse, InvalidName, InvalidNumber, InvalidWish, NothingToUndo, UnknownName
from drawnrings.kinds import is_index
from drawnrings.mends import fault_of, is_wish
from drawnrings.scripts import check_script

MOST_LETTERS = 8


def is_name(value):
    """Whether this is a name."""
    if type(value) is not str or not 1 <= len(value) <= MOST_LETTERS:
        return False
    return all(["a" <= letter <= "z" for letter in value])


def is_desk_wish(value):
    """Whether this is a wish of a desk, if what stands in the places of the names is a name."""
    if type(value) is not tuple:
        return False
    if len(value) == 3:
        return type(value[0]) is str and value[0] == "alike"
    return len(value) == 2 and is_wish(value[1])


def names_in(wish):
    """What stands in the places of the names of a desk's wish."""
    if len(wish) == 3:
        return wish[1:]
    return wish[:1]


def shown_for(scripts, wish):
    """What shows that a wish does not hold for the scripts under its names, None if it holds."""
    if len(wish) == 3:
        return fault_of(scripts[wish[1]], ("alike", scripts[wish[2]]))
    return fault_of(scripts[wish[0]], wish[1])


def check_holding(scripts, wishes, name):
    """Raise Broken with the first wish that has this name and does not hold."""
    for index, wish in enumerate(wishes):
        # The script under this name alone is new: all other wishes hold as they did.
        shown = shown_for(scripts, wish) if name in names_in(wish) else None
        if shown is not None:
            raise Broken(index, shown)


class Moment:
    """What a desk has between two changes, and the moment before; it stays what it is.

    `scripts` is a dict by names, `wanted` the tuple of the wishes, and `past` how many moments there are before.
    """

    def __init__(self, scripts, wanted, before):
        self.scripts = scripts
        self.wanted = wanted
        self.before = before
        self.past = 0 if before is None else before.past + 1


class Desk:
    """A desk, which can take back its changes.

    Of the moments in the tuple `moments` it is at the one with the index `at`: a trial that fails gives it both.
    """

    def __init__(self):
        self.moments = (Moment({}, (), None),)
        self.at = 0

    @property
    def now(self):
        """The moment of the desk."""
        return self.moments[self.at]

    @property
    def names(self):
        return tuple(sorted(self.now.scripts))

    @property
    def wishes(self):
        return self.now.wanted

    @property
    def changes(self):
        """How many changes can be taken back."""
        return self.now.past

    def put(self, name, script):
        """Put a script under a name, if all wishes hold then."""
        if not is_name(name):
            raise InvalidName(name)
        check_script(script)
        scripts = dict(self.now.scripts)
        scripts[name] = script
        check_holding(scripts, self.now.wanted, name)
        self._become(scripts, self.now.wanted)

    def named(self, name):
        """The script with this name."""
        self._check_named(name)
        return self.now.scripts[name]

    def drop(self, name):
        """Take a name away that no wish has."""
        self._check_named(name)
        for index, wish in enumerate(self.now.wanted):
            if name in names_in(wish):
                raise InUse(index)
        scripts = dict(self.now.scripts)
        del scripts[name]
        self._become(scripts, self.now.wanted)

    def wish(self, wish):
        """Add a wish behind the others, if it holds."""
        if not is_desk_wish(wish):
            raise InvalidWish(wish)
        for name in names_in(wish):
            self._check_named(name)
        shown = shown_for(self.now.scripts, wish)
        if shown is not None:
            raise Broken(len(self.now.wanted), shown)
        self._become(self.now.scripts, (*self.now.wanted, wish))

    def lift(self, index):
        """Take the wish with this index away."""
        wanted = self.now.wanted
        if not is_index(index, len(wanted)):
            raise InvalidNumber(index)
        self._become(self.now.scripts, wanted[:index] + wanted[index + 1:])

    def undo(self):
        """Take back the last change that was not taken back."""
        if self.now.before is None:
            raise NothingToUndo()
        self._go_to(self.now.before)

    def trial(self):
        """For a `with` statement: the desk is as it was before if its rows end with an exception."""
        return Trial(self)

    def tried(self, action):
        """Call the function with the desk within a trial, and return what it returns."""
        with self.trial() as desk:
            return action(desk)

    def _check_named(self, name):
        """Raise UnknownName for everything but a name of the desk."""
        if not is_name(name) or name not in self.now.scripts:
            raise UnknownName(name)

    def _become(self, scripts, wanted):
        """Have these scripts and wishes from now on."""
        self._go_to(Moment(scripts, wanted, self.now))

    def _go_to(self, moment):
        """Be at this moment, and at no trial's."""
        self.moments = (moment,)
        self.at = 0

    def __len__(self):
        return len(self.now.scripts)

    def __bool__(self):
        # A desk without names has the length 0 and would not be true otherwise.
        return True

    def __eq__(self, other):
        # Without this, another object that calls itself equal to everything would equal a desk.
        return type(other) is Desk and self is other


class Trial:
    """A desk that is tried; its rows may stand within its own rows again.

    `_starts` are the moments at which its rows began; the first `_running` of these are of rows that didn't end yet,
    each within those before.
    """

    def __init__(self, desk):
        self._desk = desk
        self._starts = ()
        self._running = 0

    def __enter__(self):
        # __exit__ can do little more than count, so what ended is left out here: in a new tuple, as the desk may be at
        # a moment of the old one.
        self._starts = self._starts[:self._running] + (self._desk.now,)
        self._running += 1
        return self._desk

    def __exit__(self, kind, value, trace):
        desk = self._desk
        self._running -= 1
        if kind is not None:
            desk.moments = self._starts
            desk.at = self._running

    def __eq__(self, other):
        # As with desks: a trial is equal to itself alone.
        return type(other) is Trial and self is other
