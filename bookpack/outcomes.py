"""Outcomes of transformations: the new book, what became of each link, and where places are now."""

from bookpack.checks import require_within
from bookpack.links import book_links
from bookpack.parts import is_chapter_item


class Outcome:
    """A new book, and how the places of the old one are carried to it.

    The ways tell, for the id of each chapter that is still there, the runs of its gaps one after the other:
    the first gap of the run, the id of the chapter that has it now, and the gap there.
    """

    def __init__(self, old, book, ways):
        self._old = old
        self._book = book
        self._ways = dict(ways)
        self._told = [self._tell(key, start, end) for key, start, end, link in book_links(old)]

    @property
    def book(self):
        """The new book."""
        return self._book

    @property
    def links(self):
        """The links of the old book's chapters, as (id, start, end, place, word)."""
        return list(self._told)

    def carry(self, key, gap, after=False):
        """The place (id, gap) of a place of the old book; None if the chapter's tokens are gone."""
        chapter = self._old.chapter(key)
        require_within("gap", gap, 0, len(chapter))
        place = None
        for first, new, low in self._ways.get(key, ()):
            if place is None or first < gap or (first == gap and after is True):
                place = (new, low + gap - first)
        return place

    def _tell(self, key, start, end):
        place = self.carry(key, start, after=True)
        if place is None:
            return (key, start, end, None, "gone")
        new, gap = place
        link = self._book.chapter(new)[gap][3]
        return (key, start, end, place, "broken" if link is None else "kept")


def same_ways(book):
    """The ways of a transformation that takes no chapter of a book to another place."""
    return {item[0]: ((0, item[0], 0),) for item in book.plain[1] if is_chapter_item(item)}
