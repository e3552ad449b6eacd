"""Rows of tokens that are cut and put together, as the pieces and changes of patches tell."""

from bookpack.aspects import ASPECTS, fits, with_value
from bookpack.errors import Misfit


def spliced(rows, pieces):
    """A new list of the rows, with what the pieces remove and put."""
    made = []
    at = 0
    for start, end, tokens in pieces:
        made.extend(rows[at:start])
        made.extend(tokens)
        at = end
    made.extend(rows[at:])
    return made


def gathered(size, rows):
    """The pieces that make the rows out of size tokens; a row is a token or the index of one that stays."""
    pieces = []
    put = []
    at = 0
    for row in rows + [size]:
        if not isinstance(row, int):
            put.append(row)
            continue
        if row > at or put:
            pieces.append((at, row, tuple(put)))
        put = []
        at = row + 1
    return tuple(pieces)


def changed(chapter, changes):
    """A list of a chapter's tokens with the changes made."""
    tokens = list(chapter)
    for index, aspect, value in changes:
        if not fits(tokens[index], aspect, value):
            raise Misfit(index)
        tokens[index] = with_value(tokens[index], aspect, value)
    return tokens


def joined(patch, other):
    """The pieces and changes of a patch and another one that fits its result."""
    rows = spliced(list(range(patch.size)), patch.pieces)
    values = {(index, aspect): value for index, aspect, value in patch.changes}
    for number, (index, aspect, value) in enumerate(other.changes):
        row = rows[index]
        if isinstance(row, int):
            values[(row, aspect)] = value
        elif fits(row, aspect, value):
            rows[index] = with_value(row, aspect, value)
        else:
            raise Misfit(number)
    rows = spliced(rows, other.pieces)
    changes = [
        (row, aspect, values[(row, aspect)])
        for row in rows
        if isinstance(row, int)
        for aspect in ASPECTS
        if (row, aspect) in values
    ]
    return gathered(patch.size, rows), tuple(changes)
