"""Unpacking: what archives of books hold, and what is wrong with them, apart from the defects of the book."""

from bookpack.archives import looked_through
from bookpack.books import Book
from bookpack.errors import BadText
from bookpack.manifests import looked_rows
from bookpack.markup import read_chapter
from bookpack.octets import first_unread, text_of
from bookpack.parts import CHAPTER, MOST_CONTENT

MANIFEST = "manifest"
CHAPTERS = "chapters/"
OTHERS = "items/"
BOOK_NAMES = ("bookpack", "manifest")
# What the first entry of each archive has: a digit one.
MARK = (49,)


def item_names(heads):
    """The names of the entries for items, given by rows that begin with an id and a kind."""
    names = []
    seen = {}
    for number, head in enumerate(heads):
        name = (CHAPTERS if head[1] == CHAPTER else OTHERS) + head[0]
        names.append(name + "." + str(number) if head[0] in seen else name)
        seen[head[0]] = True
    return names


def unpacked(data):
    """The book that is packed in what is known to be data, and what is wrong; None for the book if anything is."""
    found, _, parts, contents = looked_into(data, BOOK_NAMES, _book_names, read_content)
    return (None if found else made_book(parts, contents)), found


def looked_into(data, first, names_of, content_of):
    """What is wrong with an archive, its payloads, the parts of its manifest, and the contents of its items.

    All but the first is there only as far as nothing is wrong. The first entries are given by their names; names_of
    tells for the heads of items and the payloads which entries the items need, and content_of, for such a name and
    its payload, the content and what is wrong with it.
    """
    found, payloads = _opened(data, first)
    if found:
        return found, payloads, (), []
    parts, found = read_rows(payloads[MANIFEST])
    names = names_of(parts[1], payloads)
    if not found:
        found = _wrong_names(list(first) + names, list(payloads))
    contents = []
    if not found:
        for name in names:
            content, wrong = content_of(name, payloads[name])
            contents.append(content)
            found.extend(wrong)
    return found, payloads, parts, contents


def read_rows(payload):
    """The parts that a manifest has, and its bad rows."""
    parts, bad = looked_rows(text_of(payload))
    return parts, [("bad row", (row,)) for row in bad]


def read_content(name, payload):
    """What the entry of an item has, and a list of what is wrong with it; None for the content if anything is."""
    is_chapter = name.startswith(CHAPTERS)
    found = wrong_octets(name, payload, is_chapter)
    if found:
        return None, found
    text = text_of(payload)
    if not is_chapter:
        return (text, []) if len(text) <= MOST_CONTENT else (None, [("too long", (name,))])
    try:
        return read_chapter(text), []
    except BadText as e:
        return None, [("bad markup", (name, e.row, e.column))]


def wrong_octets(name, payload, is_rows):
    """The first octet that does not stand for text, nor for a line end where there are rows, in a list."""
    index = first_unread(payload, is_rows)
    return [] if index is None else [("bad octet", (name, index))]


def made_book(parts, contents):
    """The book of the parts that a manifest has, and of what its items have, in order."""
    fields, heads, slots, entries = parts
    items = [(key, kind, content, fallback) for (key, kind, fallback), content in zip(heads, contents)]
    return Book(fields=fields, items=tuple(items), slots=slots, contents=entries)


def _book_names(heads, payloads):
    return item_names(heads)


def _opened(data, names):
    """What is wrong with an archive or its first entries, given by their names, and the payloads, by their names."""
    rows, entries = looked_through(data)
    if rows:
        return [(word, (offset,)) for word, offset in rows], {}
    payloads = {name: payload for name, payload in entries}
    found = []
    if entries[:1] != ((names[0], MARK),):
        found.append(("bad kind", ()))
    found.extend([("no " + name, ()) for name in names[1:] if name not in payloads])
    return found, payloads


def _wrong_names(wanted, names):
    """The entries that are missing and needless; if there are none, the first one that is not at its place."""
    found = [("missing entry", (name,)) for name in wanted if name not in names]
    found.extend([("needless entry", (name,)) for name in names if name not in wanted])
    if not found:
        rows = [("misplaced entry", (name,)) for name, place in zip(names, wanted) if name != place]
        found = rows[:1]
    return found
