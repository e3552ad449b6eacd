"""Books: their four parts, chains of alternatives, and places with their locators."""

from bookpack.chapters import is_id
from bookpack.checks import require_chapter
from bookpack.errors import BadBook, BadText, NoChapter, NoItem
from bookpack.parts import MOST_ELEMENTS, is_chapter_item, is_entry, is_field, is_item, is_slot
from bookpack.spots import Spot, gap_at, spot_at


class Book:
    """Fields, items, slots and entries; a book never changes."""

    def __init__(self, *, fields=(), items=(), slots=(), contents=()):
        _require_part("fields", fields, is_field)
        _require_part("items", items, is_item)
        _require_part("slots", slots, is_slot)
        _require_contents(contents)
        self._hold((fields, items, slots, contents))

    @property
    def plain(self):
        """The tuple of the four parts."""
        return self._plain

    def __len__(self):
        return len(self._plain[1])

    def __eq__(self, other):
        return isinstance(other, Book) and self._plain == other._plain

    def __contains__(self, x):
        return isinstance(x, str) and x in self._numbers

    def __getitem__(self, at):
        if at not in self:
            raise NoItem(at)
        return self._plain[1][self._numbers[at]]

    def __iter__(self):
        raise TypeError("a book is not iterated over")

    def chapter(self, key):
        """The content of the item with this id, which is a chapter."""
        item = self[key]
        if not is_chapter_item(item):
            raise NoChapter(key)
        return item[2]

    def with_chapter(self, key, chapter):
        """The book with another chapter in place of the one with this id."""
        require_chapter(chapter)
        self.chapter(key)
        return self.with_known(key, chapter)

    def with_known(self, key, chapter):
        """The same as with_chapter, where both are known to be there and to be chapters."""
        fields, items, slots, contents = self._plain
        number = self._numbers[key]
        old = items[number]
        item = (old[0], old[1], chapter, old[3])
        made = Book()
        made._hold((fields, items[:number] + (item,) + items[number + 1:], slots, contents))
        return made

    def _hold(self, plain):
        self._plain = plain
        self._numbers = {}
        for number, item in enumerate(plain[1]):
            # If several items have the same id, the id stands for the first one.
            self._numbers.setdefault(item[0], number)


def chain(book, key):
    """The ids that come one after the other from an id on, by the fallbacks of their items."""
    if key not in book:
        raise NoItem(key)
    seen = {}
    at = key
    while at in book and at not in seen:
        seen[at] = True
        yield at
        at = book[at][3]


def readable(book, key, *kinds):
    """The id of the item that a reader of these kinds shows in place of an item; None if there is none."""
    for each in chain(book, key):
        if book[each][1] in kinds:
            return each
    return None


def locator(book, key, gap):
    """The text of a place."""
    spot = spot_at(book.chapter(key), gap)
    return key + "@" + spot.text()


def locate(book, text):
    """The place (id, gap) that a locator writes."""
    if not isinstance(text, str):
        raise BadText(0, 0)
    size = _id_size(text)
    if size == 0 or text[size:size + 1] != "@":
        raise BadText(1, size + 1)
    try:
        spot = Spot.read(text[size + 1:])
    except BadText as e:
        raise BadText(1, size + 1 + e.column) from None
    key = text[:size]
    return key, gap_at(book.chapter(key), spot)


def _id_size(text):
    """How many characters of a text, from the first one on, are an id."""
    size = 0
    while size < len(text) and is_id(text[:size + 1]):
        size += 1
    return size


def _require_rows(part, rows):
    if not isinstance(rows, tuple) or len(rows) > MOST_ELEMENTS:
        raise BadBook(part, None)


def _require_part(part, rows, is_element):
    _require_rows(part, rows)
    for number, row in enumerate(rows):
        if not is_element(row):
            raise BadBook(part, number)


def _require_contents(rows):
    _require_rows("contents", rows)
    most = 0
    for number, row in enumerate(rows):
        if not is_entry(row, most):
            raise BadBook("contents", number)
        most = row[0] + 1
