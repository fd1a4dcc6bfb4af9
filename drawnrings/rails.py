"""Rails that are led by hand, and standings."""

from drawnrings.errors import InvalidCloth, InvalidMove, InvalidNumber, InvalidPlace, InvalidStanding
from drawnrings.errors import NothingToUndo, TooFew
from drawnrings.hanging import drawn, moved, wrong_place
from drawnrings.kinds import is_filled_tuple, is_index, is_integer
from drawnrings.rows import is_cloth, read_move, rings_gained, rings_needed
from drawnrings.scripts import check_known, check_script


def check_cloth(value):
    """Raise InvalidCloth for everything but a cloth."""
    if not is_cloth(value):
        raise InvalidCloth(value)


def check_standing(cloth, places):
    """Raise InvalidStanding for everything but a standing for this cloth."""
    if not is_filled_tuple(places):
        raise InvalidStanding(None)
    index = wrong_place(cloth, places)
    if index is not None:
        raise InvalidStanding(index)


def check_enough(script, rings):
    """Raise TooFew with the first move that can't be done if there are so many rings at first."""
    for row, move in zip(script.rows[1:], script.moves):
        if rings < rings_needed(move):
            raise TooFew(row)
        rings = rings + rings_gained(move)


def is_standing(cloth, places):
    """Whether these places are a standing for the cloth."""
    check_cloth(cloth)
    return is_filled_tuple(places) and wrong_place(cloth, places) is None


class Rail:
    """A rail that is led by hand, and can take back what it was led through."""

    def __init__(self, cloth, places):
        check_cloth(cloth)
        check_standing(cloth, places)
        self._cloth = cloth
        self._places = places
        self._past = []

    @property
    def cloth(self):
        """The cloth, with the end of the rail where it is now."""
        return self._cloth

    @property
    def places(self):
        return self._places

    @property
    def changes(self):
        """How many moves and drawings can be taken back."""
        return len(self._past)

    def move(self, move):
        """Do a move, and return the standing."""
        told = read_move(move)
        if told is None or told[0] == "some":
            raise InvalidMove(move)
        if len(self._places) < rings_needed(told):
            raise TooFew(move)
        return self._do(told)

    def draw(self, index, place):
        """Draw the ring with this index to a place, and return the standing."""
        if not is_index(index, len(self._places)):
            raise InvalidNumber(index)
        if not is_integer(place):
            raise InvalidPlace(place)
        return self._become(self._cloth, drawn(self._cloth, self._places, index, place))

    def undo(self):
        """Take back the last move or drawing that was not taken back."""
        if len(self._past) == 0:
            raise NothingToUndo()
        self._cloth, self._places = self._past.pop()

    def follow(self, script):
        """Do all moves of a script, and return the standing."""
        check_script(script)
        check_known(script)
        if script.cloth != self._cloth:
            raise InvalidCloth(self._cloth)
        check_enough(script, len(self._places))
        for move in script.moves:
            self._do(move)
        return self._places

    def _do(self, move):
        """Do a move that was read and can be done, and return the standing."""
        cloth, places = moved(self._cloth, self._places, move)
        return self._become(cloth, places)

    def _become(self, cloth, places):
        """Keep what is now to be taken back later, take this instead, and return the standing."""
        self._past.append((self._cloth, self._places))
        self._cloth = cloth
        self._places = places
        return places

    def __len__(self):
        return len(self._places)

    def __eq__(self, other):
        # Without this, another object that calls itself equal to everything would equal a rail.
        return type(other) is Rail and self is other


def led(script, places):
    """The standing behind the script, places being the one at first."""
    check_script(script)
    check_known(script)
    return Rail(script.cloth, places).follow(script)
