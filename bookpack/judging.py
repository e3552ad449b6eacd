"""Judging: all that is wrong with an archive, and the books that can be recovered from damaged ones."""

from bookpack.defects import defects
from bookpack.errors import Unrecoverable
from bookpack.octets import require_data
from bookpack.parts import CHAPTER
from bookpack.pruning import pruned
from bookpack.salvaging import chosen_entries
from bookpack.unpacking import MANIFEST, item_names, made_book, read_content, read_rows, unpacked


class Recovered:
    """What was recovered: a book, and the ids of the items that were lost."""

    def __init__(self, book, lost):
        self._book = book
        self._lost = lost

    @property
    def book(self):
        """The book of what is left."""
        return self._book

    @property
    def lost(self):
        """The tuple of the ids of the items that were lost, in order."""
        return self._lost


def judge(data):
    """All that is wrong with an archive, as (word, path), of the first sort of which there is anything."""
    require_data(data)
    book, found = unpacked(data)
    return found or defects(book)


def recover(data, *more):
    """The book that can be made of what is sound in one or more copies of an archive."""
    for copy in (data, *more):
        require_data(copy)
    entries = [(name, payload) for copy in (data, *more) for _, name, payload in chosen_entries(copy)]
    parts = _first_manifest(entries)
    if parts is None:
        raise Unrecoverable(MANIFEST)
    contents = []
    lost = []
    for head, name in zip(parts[1], item_names(parts[1])):
        content = _first_content(entries, name)
        if content is None:
            lost.append(head[0])
            # Nothing of it is left by pruning, but there it still tells what stood in its place.
            content = () if head[1] == CHAPTER else ""
        contents.append(content)
    book = pruned(made_book(parts, contents), {key: True for key in lost}, parts[2])
    if not any([main for key, main in book.plain[2]]):
        raise Unrecoverable("slots")
    return Recovered(book, tuple(lost))


def _first_manifest(entries):
    """The parts that the first manifest has which can be one; None if there is none."""
    for name, payload in entries:
        if name == MANIFEST:
            parts, bad = read_rows(payload)
            ids = {key: True for key, kind, fallback in parts[1]}
            if not bad and len(ids) == len(parts[1]):
                return parts
    return None


def _first_content(entries, wanted):
    """What the first entry of this name has with which nothing is wrong; None if there is none."""
    for name, payload in entries:
        if name == wanted:
            content, wrong = read_content(name, payload)
            if not wrong:
                return content
    return None
