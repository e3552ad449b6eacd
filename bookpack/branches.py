"""Branches: two rows of patches of one chapter, and their merge through the grid of their cells."""

from bookpack.checks import require_chapter, require_within
from bookpack.errors import BadBranch, BadChapter, BookError, Clash, Conflict
from bookpack.patches import Patch


class Merged:
    """What a merge gives: the merged chapter, and each branch as it follows the other one."""

    def __init__(self, result, ours, theirs, sizes):
        self.result = result
        self.ours = ours
        self.theirs = theirs
        # Kept apart, since a branch may have no patch that tells the size of its last chapter.
        self._sizes = sizes

    def carry(self, side, gap, after=False):
        """Where a gap of the chapter behind ours (0) or theirs (1) is in the merged chapter."""
        require_within("side", side, 0, 1)
        require_within("gap", gap, 0, self._sizes[side])
        patches = self.theirs if side == 0 else self.ours
        place = gap
        for patch in patches:
            place = patch.carry(place, after)
        return place


def merge(chapter, ours, theirs):
    """Merge two branches of a chapter."""
    require_chapter(chapter)
    made = _chapters(chapter, ours, 0)
    others = _chapters(chapter, theirs, 1)
    corner = others[-1]
    followed = []
    row = list(theirs)
    for first, patch in enumerate(ours):
        down, row, corner = _through(made[first + 1], patch, row, first)
        followed.append(down)
    return Merged(corner, tuple(followed), tuple(row), (len(made[-1]), len(others[-1])))


def _chapters(chapter, branch, side):
    """The chapter and what each patch of a branch makes of the one before it."""
    if not isinstance(branch, tuple):
        raise BadBranch(side, None)
    made = [chapter]
    for number, patch in enumerate(branch):
        if not isinstance(patch, Patch):
            raise BadBranch(side, number)
        try:
            made.append(patch.made_of(made[-1]))
        except BookError:
            raise BadBranch(side, number) from None
    return made


def _through(chapter, patch, row, first):
    """Take a patch of ours through a row of theirs: both as they follow, and the chapter behind them.

    The chapter is the one that the patch makes at the beginning of the row.
    """
    down = patch
    corner = chapter
    behind = []
    for second, across in enumerate(row):
        try:
            after = across.rebase(down)
            down = down.rebase(across, first=True)
            corner = after.made_of(corner)
        except Conflict as e:
            raise Clash(first, second, e.place) from None
        except BadChapter:
            raise Clash(first, second, None) from None
        behind.append(after)
    return down, behind, corner
