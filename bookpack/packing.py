"""Packing: books as archives."""

from bookpack.archives import write_archive
from bookpack.errors import Refused
from bookpack.manifests import write_manifest
from bookpack.markup import write_chapter
from bookpack.octets import require_data, text_octets
from bookpack.parts import is_chapter_item
from bookpack.unpacking import BOOK_NAMES, MARK, item_names, unpacked


def write_book(book):
    """The archive of a book."""
    items = book.plain[1]
    payloads = [MARK, text_octets(write_manifest(book))]
    payloads.extend([content_octets(item) for item in items])
    names = list(BOOK_NAMES) + item_names(items)
    return write_archive(tuple([(name, payload) for name, payload in zip(names, payloads)]))


def read_book(data):
    """The book of an archive, which may have defects."""
    require_data(data)
    book, found = unpacked(data)
    if found:
        word, path = found[0]
        raise Refused(word, path)
    return book


def content_octets(item):
    """The payload of the entry for an item."""
    return text_octets(write_chapter(item[2]) if is_chapter_item(item) else item[2])
