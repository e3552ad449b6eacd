"""The elements of a book's four parts: what each of them may be."""

from bookpack.chapters import first_bad, is_id, is_link, is_text
from bookpack.checks import is_within

CHAPTER = "chapter"
MOST_ELEMENTS = 40
MOST_VALUE = 200
MOST_CONTENT = 2000
MOST_LABEL = 80


def is_field(value):
    """Whether an object is a field (name, value)."""
    return _is_row(value, 2) and is_id(value[0]) and _is_text_of(value[1], 0, MOST_VALUE)


def is_item(value):
    """Whether an object is an item (id, kind, content, fallback)."""
    if not _is_row(value, 4):
        return False
    key, kind, content, fallback = value
    if not is_id(key) or not is_id(kind):
        return False
    if kind == CHAPTER:
        return first_bad(content) is None and fallback is None
    return _is_text_of(content, 0, MOST_CONTENT) and (fallback is None or is_id(fallback))


def is_slot(value):
    """Whether an object is a slot (id, main)."""
    return _is_row(value, 2) and is_id(value[0]) and (value[1] is True or value[1] is False)


def is_entry(value, most):
    """Whether an object is an entry (depth, label, link) of at most this depth."""
    if not _is_row(value, 3):
        return False
    depth, label, link = value
    return is_within(depth, 0, most) and _is_text_of(label, 1, MOST_LABEL) and is_link(link) and not leads_out(link)


def leads_out(link):
    """Whether a link leads out of the book."""
    return link.startswith("out:")


def is_chapter_item(item):
    """Whether the content of an item is a chapter."""
    return item[1] == CHAPTER


def _is_row(value, size):
    return isinstance(value, tuple) and len(value) == size


def _is_text_of(value, least, most):
    return isinstance(value, str) and least <= len(value) <= most and is_text(value)
