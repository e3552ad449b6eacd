"""Differences: shortest patches, and the tables of heights that show that none is shorter."""

from bookpack.aspects import changes_between, step_cost
from bookpack.checks import is_integer, require_chapter
from bookpack.errors import BookError, TooLong
from bookpack.patches import Patch
from bookpack.splicing import gathered

MOST_COMPARED = 300


def cost(patch):
    """The number of tokens that a patch removes, puts and changes."""
    moved = sum([end - start + len(tokens) for start, end, tokens in patch.pieces])
    touched = {index: True for index, aspect, value in patch.changes}
    return moved + len(touched)


def difference(one, other):
    """A patch of least cost from one chapter to another."""
    table = heights(one, other)
    rows = []
    changes = []
    at = 0
    to = 0
    while at < len(one) or to < len(other):
        if _is_best_step(one, other, table, at, to):
            rows.append(at)
            changes.extend(changes_between(at, one[at], other[to]))
            at += 1
            to += 1
        elif at < len(one) and table[at][to] == table[at + 1][to] + 1:
            at += 1
        else:
            rows.append(other[to])
            to += 1
    return Patch(len(one), gathered(len(one), rows), tuple(changes))


def least_cost(one, other):
    """The cost of a shortest patch from one chapter to another."""
    return heights(one, other)[0][0]


def heights(one, other):
    """The table of the least costs from the tokens from i on to those from j on."""
    require_chapter(one)
    require_chapter(other)
    if len(one) > MOST_COMPARED:
        raise TooLong(0)
    if len(other) > MOST_COMPARED:
        raise TooLong(1)
    below = tuple([len(other) - to for to in range(len(other) + 1)])
    rows = [below]
    for at in reversed(range(len(one))):
        below = _row_above(one[at], other, below)
        rows.append(below)
    return tuple(rows[::-1])


def shows_least(one, other, patch, thing):
    """Whether an object is a table of heights that shows that a patch is a shortest one."""
    require_chapter(one)
    require_chapter(other)
    if not _is_table(one, other, thing):
        return False
    try:
        made = patch(one)
    except BookError:
        return False
    return made == other and cost(patch) == thing[0][0]


def _row_above(token, other, below):
    """The row of heights for a token, from the row for the tokens behind it."""
    row = [below[-1] + 1]
    for to in reversed(range(len(other))):
        best = row[-1] + 1
        if below[to] + 1 < best:
            best = below[to] + 1
        step = step_cost(token, other[to])
        if step is not None and below[to + 1] + step < best:
            best = below[to + 1] + step
        row.append(best)
    return tuple(row[::-1])


def _is_best_step(one, other, table, at, to):
    """Whether a shortest patch from these tokens on keeps the first one for the other one."""
    if at == len(one) or to == len(other):
        return False
    step = step_cost(one[at], other[to])
    return step is not None and table[at][to] == table[at + 1][to + 1] + step


def _is_table(one, other, thing):
    """Whether an object is a table of heights for two chapters."""
    if not isinstance(thing, tuple) or len(thing) != len(one) + 1:
        return False
    if not all([_is_row(row, len(other) + 1) for row in thing]):
        return False
    if thing[-1][-1] != 0:
        return False
    for at, row in enumerate(thing):
        below = thing[at + 1] if at < len(one) else None
        for to, height in enumerate(row):
            if to < len(other) and height > row[to + 1] + 1:
                return False
            if below is not None and height > below[to] + 1:
                return False
            if below is not None and to < len(other) and _is_over(height, one[at], other[to], below[to + 1]):
                return False
    return True


def _is_row(row, length):
    return isinstance(row, tuple) and len(row) == length and all([is_integer(height) for height in row])


def _is_over(height, token, other, behind):
    """Whether a height is more than the step from a token to another one allows."""
    step = step_cost(token, other)
    return step is not None and height > behind + step
