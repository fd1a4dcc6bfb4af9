"""Scripts: the row of a cloth and the rows of moves behind it."""

from drawnrings.errors import InvalidNumber, InvalidRows, InvalidText, NotAScript, Unknown
from drawnrings.kinds import is_index
from drawnrings.limits import MOST_MOVES
from drawnrings.rows import read_cloth, read_move, rings_gained, rings_needed


def least_number(moves):
    """The least number of rings at first with which all these moves can be done."""
    least = 1
    change = 0
    for move in moves:
        least = max(least, rings_needed(move) - change)
        change = change + rings_gained(move)
    return least


class Script:
    """A script, which stays what it is. `moves` are its moves as drawnrings.rows reads them."""

    def __init__(self, *rows):
        if not 1 <= len(rows) <= MOST_MOVES + 1:
            raise InvalidRows(None)
        cloth = read_cloth(rows[0])
        moves = [read_move(row) for row in rows[1:]]
        if cloth is None:
            raise InvalidRows(0)
        if None in moves:
            raise InvalidRows(moves.index(None) + 1)
        self._rows = rows
        self._cloth = cloth
        self._moves = tuple(moves)

    @classmethod
    def read(cls, text):
        """The script whose rows are the lines of this text."""
        if type(text) is not str:
            raise InvalidText(text)
        rows = text.split("\n")
        try:
            return cls(*rows)
        except InvalidRows:
            raise InvalidText(text) from None

    @property
    def rows(self):
        return self._rows

    @property
    def text(self):
        return "\n".join(self._rows)

    @property
    def cloth(self):
        return self._cloth

    @property
    def moves(self):
        return self._moves

    @property
    def least(self):
        """The least number of rings at first with which all moves can be done."""
        return least_number(self._moves)

    @property
    def known(self):
        """Whether no move leaves open which ring is drawn."""
        return "some" not in [move[0] for move in self._moves]

    @property
    def change(self):
        """How many more rings there are at the end than at first."""
        return sum([rings_gained(move) for move in self._moves])

    def with_row(self, index, row):
        """The script with this row in the place of the one with this index."""
        if not is_index(index, len(self._rows)):
            raise InvalidNumber(index)
        rows = list(self._rows)
        rows[index] = row
        return Script(*rows)

    def __len__(self):
        return len(self._moves)

    def __bool__(self):
        # A script without moves has the length 0 and would not be true otherwise.
        return True

    def __eq__(self, other):
        return type(other) is Script and self._rows == other._rows

    def __str__(self):
        return "\n".join(self._rows)

    def __repr__(self):
        return f"Script of {len(self._moves)} moves"


def check_script(value):
    """Raise NotAScript for everything but a script."""
    if type(value) is not Script:
        raise NotAScript(value)


def check_known(script):
    """Raise Unknown with the index of the first row with `some`, if there is one."""
    for index, move in enumerate(script.moves, start=1):
        if move[0] == "some":
            raise Unknown(index)
