"""The desk: what is told, changes of it, and all that was there before."""

from backwalks.errors import InvalidChances, InvalidFraction, InvalidGlasses, InvalidTold, InvalidWalk, InvalidWeights
from backwalks.errors import NothingToUndo, NotOfThisKind, UnknownName
from backwalks.exact import ONE, is_from_nil, total
from backwalks.glasses import are_marks
from backwalks.language import is_told
from backwalks.walks import is_table_row, is_walk
from backwalks.weights import is_weights


def with_row(table, at, row):
    """The table with this row in the place of the one at this index."""
    return table[:at] + (row,) + table[at + 1:]


def with_weight(weights, here, there, number):
    """The weights with this number, both ways, between the two places."""
    table = weights
    for place, other in ((here, there), (there, here)):
        row = table[place]
        table = with_row(table, place, row[:other] + (number,) + row[other + 1:])
    return table


def place_called(names, name):
    """The place with this name, whatever value this is."""
    if name not in names:
        raise UnknownName(None, None)
    return names.index(name)


class Moment:
    """What a desk was when the rows of a trial began, and the moment at which those of the same trial around began."""

    def __init__(self, then, past, around):
        self.then = then
        self.past = past
        self.around = around


class Trial:
    """For a `with` statement: if its rows end with an exception, the desk is as it was when they began."""

    def __init__(self, desk):
        self.desk = desk
        self.began = None

    def __enter__(self):
        # One trial may be entered within itself: so the moments around are kept, too.
        self.began = Moment(self.desk._now, self.desk._past, self.began)
        return self.desk

    def __exit__(self, kind, value, trace):
        desk = self.desk
        if kind is not None:
            desk._now = self.began.then
            desk._past = self.began.past
        self.began = self.began.around


class Desk:
    """What is told, and all that was there before."""

    def __init__(self, told):
        if not is_told(told):
            raise InvalidTold(told)
        self._now = told
        self._past = ()

    def __len__(self):
        return len(self._past)

    def __bool__(self):
        return True

    @property
    def told(self):
        """What is told now."""
        return self._now

    def _become(self, table, glasses):
        """Tell this table and these glasses from now on."""
        self._past = self._past + (self._now,)
        self._now = (self._now[0], table, glasses, self._now[3])

    def put(self, name, row):
        """Let this be the row of chances from the place with this name."""
        kind, walk, glasses, names = self._now
        if kind != "walk":
            raise NotOfThisKind()
        place = place_called(names, name)
        if not is_table_row(row, len(names)) or total(row) != ONE:
            raise InvalidChances(row)
        table = with_row(walk, place, row)
        if not is_walk(table):
            raise InvalidWalk(table)
        self._become(table, glasses)

    def tie(self, name, other, number):
        """Let this be the weight, either way, between the places with these names."""
        kind, weights, glasses, names = self._now
        if kind != "weights":
            raise NotOfThisKind()
        here, there = place_called(names, name), place_called(names, other)
        if not is_from_nil(number):
            raise InvalidFraction(number)
        table = with_weight(weights, here, there, number)
        if not is_weights(table):
            raise InvalidWeights(table)
        self._become(table, glasses)

    def look(self, glasses):
        """Let these be the glasses, or None."""
        table = self._now[1]
        if glasses is not None and not are_marks(len(table), glasses):
            raise InvalidGlasses(glasses)
        self._become(table, glasses)

    def undo(self):
        """Lead back to what was there before the last change."""
        if len(self._past) == 0:
            raise NothingToUndo()
        self._now = self._past[-1]
        self._past = self._past[:-1]

    def trial(self):
        """For a `with` statement that gives the desk, and takes all back if its rows end with an exception."""
        return Trial(self)

    def tried(self, action):
        """What the function returns when it is called with the desk, within such a statement."""
        with self.trial() as desk:
            return action(desk)
