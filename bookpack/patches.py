"""Patches: they change chapters, carry gaps, and are joined and rebased."""

from bookpack.aspects import ASPECTS, takes, value_of
from bookpack.chapters import MOST_TOKENS, count_tokens
from bookpack.checks import is_within, require_chapter, require_made, require_within
from bookpack.errors import BadPatch, Conflict, Misfit
from bookpack.rebasing import conflict, rebased_changes, rebased_pieces
from bookpack.splicing import changed, joined, spliced


class Patch:
    """What is removed from, put into and changed in chapters of one number of tokens."""

    def __init__(self, size, pieces=(), changes=()):
        if not is_within(size, 0, MOST_TOKENS):
            raise BadPatch("size", None)
        _require_pieces(size, pieces)
        _require_changes(size, pieces, changes)
        self._fill(size, pieces, changes)

    @property
    def size(self):
        """The number of tokens of the chapters that the patch fits."""
        return self._size

    @property
    def pieces(self):
        """The tuple of the pieces (start, end, tokens)."""
        return self._pieces

    @property
    def changes(self):
        """The tuple of the changes (index, aspect, value)."""
        return self._changes

    @property
    def new_size(self):
        """The number of tokens of the chapters that the patch makes."""
        return self._new_size

    def __bool__(self):
        return bool(self._pieces) or bool(self._changes)

    def __eq__(self, other):
        return (
            isinstance(other, Patch)
            and self._size == other._size
            and self._pieces == other._pieces
            and self._changes == other._changes
        )

    def __call__(self, chapter):
        """The chapter that the patch makes of another one."""
        require_chapter(chapter)
        return self.made_of(chapter)

    def made_of(self, chapter):
        """The same as the patch called, for what is known to be a chapter."""
        if len(chapter) != self._size:
            raise Misfit(None)
        made = tuple(spliced(changed(chapter, self._changes), self._pieces))
        require_made(chapter, made, self._pieces, self._changes)
        return made

    def undo(self, chapter):
        """The patch that leads back to a chapter from what this one makes of it."""
        require_chapter(chapter)
        return self.undo_of(chapter)

    def undo_of(self, chapter):
        """The same as undo, for what is known to be a chapter."""
        made = self.made_of(chapter)
        pieces = []
        for start, end, tokens in self._pieces:
            low = self.carry(start)
            pieces.append((low, low + len(tokens), chapter[start:end]))
        changes = [
            (self.carry(index, after=True), aspect, value_of(chapter[index], aspect))
            for index, aspect, value in self._changes
            if value_of(chapter[index], aspect) != value
        ]
        return known_patch(len(made), tuple(pieces), tuple(changes))

    def carry(self, gap, after=False):
        """Where a gap is after the patch; with after, behind what was put there."""
        require_within("gap", gap, 0, self._size)
        number = self._piece_at(gap)
        shift = self._shifts[number]
        if number < len(self._pieces):
            start, end, tokens = self._pieces[number]
            if start <= gap:
                return start + shift + (len(tokens) if after is True else 0)
        return gap + shift

    def carry_range(self, start, end):
        """The gaps around what stays of the tokens between two gaps; None if none of them stays."""
        require_within("start", start, 0, self._size)
        require_within("end", end, start + 1, self._size)
        # Pieces never touch, so only a single piece can remove all of them.
        for low, high, _ in self._pieces:
            if low <= start and end <= high:
                return None
        return self.carry(start, after=True), self.carry(end)

    def then(self, other):
        """The one patch that does what this one and then the other one does."""
        if other.size != self._new_size:
            raise Misfit(None)
        pieces, changes = joined(self, other)
        return known_patch(self._size, pieces, changes)

    def rebase(self, other, *, first=False):
        """The patch that does after the other one what this one does without it."""
        if other.size != self._size:
            raise Misfit(None)
        place = conflict(self, other)
        if place is not None:
            raise Conflict(place)
        return known_patch(other.new_size, rebased_pieces(self, other, first), rebased_changes(self, other))

    def _fill(self, size, pieces, changes):
        self._size = size
        self._pieces = pieces
        self._changes = changes
        # How far the gaps behind so many pieces are shifted.
        self._shifts = [0]
        for start, end, tokens in pieces:
            self._shifts.append(self._shifts[-1] + len(tokens) - (end - start))
        self._new_size = size + self._shifts[-1]

    def _piece_at(self, gap):
        """The number of the first piece that does not end before a gap; their number, if all do."""
        low = 0
        high = len(self._pieces)
        while low < high:
            middle = (low + high) // 2
            if self._pieces[middle][1] < gap:
                low = middle + 1
            else:
                high = middle
        return low


def known_patch(size, pieces, changes):
    """The patch of pieces and changes that are known to be as they have to be; the size is looked at."""
    patch = Patch(size)
    patch._fill(size, pieces, changes)
    return patch


def _require_pieces(size, pieces):
    if not isinstance(pieces, tuple):
        raise BadPatch("pieces", None)
    least = 0
    for number, piece in enumerate(pieces):
        if not _is_piece(piece, least, size):
            raise BadPatch("pieces", number)
        # Pieces that touch are one, so that each patch is written in one way only.
        least = piece[1] + 1


def _is_piece(piece, least, size):
    """Whether an object is a piece that begins at the least gap or behind it."""
    if not isinstance(piece, tuple) or len(piece) != 3:
        return False
    start, end, tokens = piece
    if not is_within(start, least, size) or not is_within(end, start, size):
        return False
    if not isinstance(tokens, tuple) or count_tokens(tokens) < len(tokens):
        return False
    return start < end or len(tokens) > 0


def _require_changes(size, pieces, changes):
    if not isinstance(changes, tuple):
        raise BadPatch("changes", None)
    removed = {index: True for start, end, _ in pieces for index in range(start, end)}
    before = (-1, "")
    for number, change in enumerate(changes):
        if not _is_change(change, before, size) or change[0] in removed:
            raise BadPatch("changes", number)
        before = (change[0], change[1])


def _is_change(change, before, size):
    """Whether an object is a change behind the one with the index and aspect before."""
    if not isinstance(change, tuple) or len(change) != 3:
        return False
    index, aspect, value = change
    if not is_within(index, 0, size - 1) or not isinstance(aspect, str) or aspect not in ASPECTS:
        return False
    return (index, aspect) > before and takes(aspect, value)
