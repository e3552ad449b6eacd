"""Spots: the places of gaps in the tree of a chapter."""

from bookpack.checks import is_integer, is_within, require_chapter, require_within
from bookpack.errors import BadSpot, BadText, NoSpot
from bookpack.trees import begins_node, children_end, step_over

MOST_STEP = 9999
_DIGITS = "0123456789"
_MOST_DIGITS = 4


class Spot:
    """A row of steps; spots are compared like the tuples of their steps."""

    def __init__(self, *steps):
        if not steps:
            raise BadSpot(None)
        for number, step in enumerate(steps):
            if not is_within(step, 0, MOST_STEP):
                raise BadSpot(number)
        self._steps = steps

    @classmethod
    def read(cls, text):
        """The spot that a text writes."""
        if not isinstance(text, str):
            raise BadText(0, 0)
        column = _bad_column(text)
        if column is not None:
            raise BadText(1, column)
        steps = [int(word) for word in text.split(".")]
        return cls(*steps)

    @property
    def steps(self):
        """The tuple of the steps."""
        return self._steps

    @property
    def parent(self):
        """The spot without the last step; None if there is only one step."""
        if len(self._steps) == 1:
            return None
        steps = self._steps[:-1]
        return Spot(*steps)

    def text(self):
        """The steps with points between them."""
        return ".".join([str(step) for step in self._steps])

    def __eq__(self, other):
        return isinstance(other, Spot) and self._steps == other._steps

    def __lt__(self, other):
        if not isinstance(other, Spot):
            return NotImplemented
        return self._steps < other._steps

    def __le__(self, other):
        if not isinstance(other, Spot):
            return NotImplemented
        return self._steps <= other._steps

    def __add__(self, other):
        if not is_integer(other):
            return NotImplemented
        steps = self._steps[:-1] + (self._steps[-1] + other,)
        return Spot(*steps)


def spot_at(chapter, gap):
    """The spot of a gap."""
    require_chapter(chapter)
    require_within("gap", gap, 0, len(chapter))
    counts = [0]
    for index in range(gap):
        step_over(counts, chapter[index])
    return Spot(*counts)


def gap_at(chapter, spot):
    """The gap of a spot."""
    require_chapter(chapter)
    steps = spot.steps
    last = len(steps) - 1
    gap = 0
    for depth, step in enumerate(steps):
        gap = children_end(chapter, gap, step)
        if gap is None:
            raise NoSpot(depth)
        if depth < last:
            if not begins_node(chapter, gap):
                raise NoSpot(depth)
            gap += 1
    return gap


def _bad_column(text):
    """The column of the first character that cannot stand in a spot's text, None if all can."""
    word = ""
    for at, c in enumerate(text):
        if c == "." and word:
            word = ""
        elif c in _DIGITS and word != "0" and len(word) < _MOST_DIGITS:
            word = word + c
        else:
            return at + 1
    return None if word else len(text) + 1
