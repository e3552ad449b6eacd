"""Outlines: tables of contents that are made of the head lines of a book."""

from bookpack.books import Book
from bookpack.chapters import HEAD_LEVELS
from bookpack.checks import require_within
from bookpack.defects import require_sound
from bookpack.errors import TooMany
from bookpack.outcomes import Outcome, same_ways
from bookpack.parts import MOST_ELEMENTS, MOST_LABEL, is_chapter_item
from bookpack.rewriting import lowered

_UNTITLED = "untitled"


def outline(book, *, levels=3):
    """The entries that the head lines of a book make, up to a level."""
    require_within("levels", levels, 1, 3)
    rows = [
        (level - 1, label, key + "#" + name)
        for key, main in book.plain[2]
        if key in book and is_chapter_item(book[key])
        for level, label, name in _heads(book.chapter(key))
        if level <= levels
    ]
    return list(lowered(rows))


def outlined(book, *, levels=3):
    """Put the outline of a book in place of its entries."""
    require_sound(book)
    contents = outline(book, levels=levels)
    if len(contents) > MOST_ELEMENTS:
        raise TooMany("contents")
    fields, items, slots, _ = book.plain
    made = Book(fields=fields, items=items, slots=slots, contents=tuple(contents))
    return Outcome(book, made, same_ways(book))


def _heads(chapter):
    """The head lines of a chapter that hold an anchor, as (level, label, name of the first anchor)."""
    rows = []
    level = None
    label = ""
    name = None
    for token in chapter:
        if token[0] == "open":
            level = HEAD_LEVELS.get(token[1])
            label = ""
            name = None
        elif token[0] == "close":
            if level is not None and name is not None:
                rows.append((level, label[:MOST_LABEL] or _UNTITLED, name))
            level = None
        elif token[0] == "char":
            label = label + token[1]
        elif token[0] == "anchor" and name is None:
            name = token[1]
    return rows
