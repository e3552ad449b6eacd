"""Checks of what is passed in, shared by the whole package."""

from bookpack.chapters import first_bad
from bookpack.errors import BadChapter, BadNumber, BadOrder


def is_integer(value):
    """Whether an object is an int that is not a bool."""
    return isinstance(value, int) and not isinstance(value, bool)


def is_within(value, low, high):
    """Whether an object is an integer from low to high, both included."""
    return is_integer(value) and low <= value <= high


def require_within(name, value, low, high):
    """Refuse a parameter that is no integer from low to high, both included."""
    if not is_within(value, low, high):
        raise BadNumber(name)


def require_from(name, value, low):
    """Refuse a parameter that is no integer from low on."""
    if not is_integer(value) or value < low:
        raise BadNumber(name)


def require_chapter(chapter):
    """Refuse a value that is no chapter."""
    index = first_bad(chapter)
    if index is not None:
        raise BadChapter(index)


def different_ids(ids, known):
    """The ids, each in a dict; refuses what is no tuple, and ids that are unknown or stand twice."""
    if not isinstance(ids, tuple):
        raise BadOrder(None)
    seen = {}
    for number, key in enumerate(ids):
        if not isinstance(key, str) or key not in known or key in seen:
            raise BadOrder(number)
        seen[key] = True
    return seen
