"""Checks of what is passed in, shared by the whole package."""

from bookpack.chapters import MOST_TOKENS, first_bad, first_misplaced
from bookpack.errors import BadChapter, BadNumber, BadOrder
from bookpack.trees import keeps_nodes


def is_integer(value):
    """Whether an object is an int that is not a bool."""
    return isinstance(value, int) and not isinstance(value, bool)


def is_within(value, low, high):
    """Whether an object is an integer from low to high, both included."""
    return is_integer(value) and low <= value <= high


def require_within(name, value, low, high):
    """Refuse a parameter that is no integer from low to high, both included."""
    if not is_within(value, low, high):
        raise BadNumber(name)


def require_from(name, value, low):
    """Refuse a parameter that is no integer from low on."""
    if not is_integer(value) or value < low:
        raise BadNumber(name)


def require_chapter(chapter):
    """Refuse a value that is no chapter."""
    index = first_bad(chapter)
    if index is not None:
        raise BadChapter(index)


def require_made(chapter, made, pieces, changes):
    """Refuse what pieces and changes make of a chapter, if it is none."""
    # Most edits touch glyphs alone: then there is no need to go through a long chapter once more.
    if len(made) <= MOST_TOKENS and keeps_nodes(chapter, pieces, changes):
        return
    index = first_misplaced(made)
    if index is not None:
        raise BadChapter(index)


def different_ids(ids, known):
    """The ids, each in a dict; refuses what is no tuple, and ids that are unknown or stand twice."""
    if not isinstance(ids, tuple):
        raise BadOrder(None)
    seen = {}
    for number, key in enumerate(ids):
        if not isinstance(key, str) or key not in known or key in seen:
            raise BadOrder(number)
        seen[key] = True
    return seen
