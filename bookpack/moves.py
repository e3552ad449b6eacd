"""Moves: they take a run of tokens to another gap."""

from bookpack.chapters import MOST_TOKENS
from bookpack.checks import is_within, require_chapter, require_from, require_made, require_within
from bookpack.errors import BadNumber, Misfit, NoNode
from bookpack.patches import known_patch
from bookpack.trees import children_end


class Move:
    """Takes the tokens from start up to end to the gap to."""

    def __init__(self, size, start, end, to):
        require_within("size", size, 0, MOST_TOKENS)
        require_within("start", start, 0, size)
        require_within("end", end, start, size)
        if not is_within(to, 0, size) or start < to < end:
            raise BadNumber("to")
        self._size = size
        self._start = start
        self._end = end
        self._to = to

    @property
    def size(self):
        """The number of tokens of the chapters that the move fits."""
        return self._size

    @property
    def start(self):
        """The gap before the first token that is taken."""
        return self._start

    @property
    def end(self):
        """The gap behind the last token that is taken."""
        return self._end

    @property
    def to(self):
        """The gap to which the tokens are taken."""
        return self._to

    def __call__(self, chapter):
        """The chapter that the move makes of another one."""
        require_chapter(chapter)
        return self.made_of(chapter)

    def made_of(self, chapter):
        """The same as the move called, for what is known to be a chapter."""
        if len(chapter) != self._size:
            raise Misfit(None)
        taken = chapter[self._start:self._end]
        if self._to < self._start:
            made = chapter[:self._to] + taken + chapter[self._to:self._start] + chapter[self._end:]
        elif self._to > self._end:
            made = chapter[:self._start] + chapter[self._end:self._to] + taken + chapter[self._to:]
        else:
            made = chapter
        require_made(chapter, made, ((self._start, self._end, ()), (self._to, self._to, taken)), ())
        return made

    def undo(self):
        """The move that takes the same tokens back."""
        count = self._end - self._start
        if self._to < self._start:
            return Move(self._size, self._to, self._to + count, self._end)
        if self._to > self._end:
            return Move(self._size, self._to - count, self._to, self._start)
        return Move(self._size, self._start, self._end, self._start)

    def carry(self, gap, after=False):
        """Where the token before a gap, or with after the one behind it, takes the gap."""
        require_within("gap", gap, 0, self._size)
        if after is True:
            return gap if gap == self._size else self._new_index(gap)
        return gap if gap == 0 else self._new_index(gap - 1) + 1

    def patch(self, chapter):
        """The patch that removes the tokens and puts them where the move takes them."""
        self(chapter)
        return self.patch_of(chapter)

    def patch_of(self, chapter):
        """The same as patch, for a chapter that is known to be moved to another one."""
        start = self._start
        end = self._end
        to = self._to
        if start == end or to == start or to == end:
            return known_patch(self._size, (), ())
        cut = (start, end, ())
        put = (to, to, chapter[start:end])
        return known_patch(self._size, (put, cut) if to < start else (cut, put), ())

    def _new_index(self, index):
        """Where the token at an index is after the move."""
        start = self._start
        end = self._end
        to = self._to
        if start <= index < end:
            if to < start:
                return to + (index - start)
            return index + max(to - end, 0)
        if end <= index < to:
            return index - (end - start)
        if to <= index < start:
            return index + (end - start)
        return index


def moving(chapter, gap, count, to):
    """The move of so many children behind a gap."""
    require_chapter(chapter)
    require_within("gap", gap, 0, len(chapter))
    require_from("count", count, 0)
    end = children_end(chapter, gap, count)
    if end is None:
        raise NoNode(gap)
    move = Move(len(chapter), gap, end, to)
    move.made_of(chapter)
    return move
