"""Pruning: items and slots are taken out of a book, and what led to them with them."""

from bookpack.books import Book, chain
from bookpack.checks import different_ids
from bookpack.defects import require_sound
from bookpack.errors import NoMain
from bookpack.outcomes import Outcome, same_ways
from bookpack.parts import is_chapter_item, leads_out
from bookpack.rewriting import lowered

_BLANK = ("char", " ", (), None)


def without(book, ids):
    """Take items out of a book."""
    require_sound(book)
    gone = different_ids(ids, book)
    return _pruning(book, gone, book.plain[2])


def extract(book, ids):
    """Keep some slots of a book alone, and the items that they need."""
    require_sound(book)
    slots = book.plain[2]
    wanted = different_ids(ids, {key: True for key, main in slots})
    needed = _needed(book, wanted)
    gone = {item[0]: True for item in book.plain[1] if item[0] not in needed}
    return _pruning(book, gone, [slot for slot in slots if slot[0] in wanted])


def pruned(book, gone, slots):
    """The book without the items whose ids are gone, and with no other slots than these."""
    fields, items, _, contents = book.plain
    left = _left_slots(book, gone, slots)
    numbers = {key: True for key, main in left}
    rows = []
    for item in items:
        key, kind, content, fallback = item
        if key not in gone:
            inner = _left_chapter(content, gone, numbers) if is_chapter_item(item) else content
            rows.append((key, kind, inner, _first_left(book, fallback, gone)))
    entries = lowered([entry for entry in contents if not _is_cut(entry[2], numbers)])
    return Book(fields=fields, items=tuple(rows), slots=tuple(left), contents=entries)


def _pruning(book, gone, slots):
    made = pruned(book, gone, slots)
    if not any([main for key, main in made.plain[2]]):
        raise NoMain()
    return Outcome(book, made, {key: way for key, way in same_ways(book).items() if key not in gone})


def _needed(book, ids):
    """The ids of some items, and of all that their fallbacks and images name, and so on."""
    needed = {}
    rows = list(ids)
    while rows:
        key = rows.pop()
        if key in needed:
            continue
        needed[key] = True
        item = book[key]
        if item[3] is not None:
            rows.append(item[3])
        if is_chapter_item(item):
            rows.extend([token[1] for token in item[2] if token[0] == "image"])
    return needed


def _first_left(book, key, gone):
    """The first id in the chain of an id that stays; None if there is none."""
    if key not in book:
        return None
    for each in chain(book, key):
        if each not in gone:
            return each
    return None


def _left_slots(book, gone, slots):
    before = {key: True for key, main in book.plain[2]}
    left = []
    taken = {}
    for key, main in slots:
        new = _first_left(book, key, gone)
        if new is None or new in taken or (new != key and new in before):
            continue
        if _shows_chapter(book, new, gone):
            taken[new] = True
            left.append((new, main))
    return left


def _shows_chapter(book, key, gone):
    """Whether a chapter is left in the chain of an id."""
    return any([each not in gone and is_chapter_item(book[each]) for each in chain(book, key)])


def _left_chapter(chapter, gone, numbers):
    """A chapter without the images that are gone, and without the links that lead to no slot."""
    tokens = []
    for token in chapter:
        if token[0] == "image" and token[1] in gone:
            tokens.append(_BLANK)
        elif token[0] == "char" and token[3] is not None and _is_cut(token[3], numbers):
            tokens.append((token[0], token[1], token[2], None))
        else:
            tokens.append(token)
    return tuple(tokens)


def _is_cut(link, numbers):
    """Whether a link has an id that no slot has."""
    return not leads_out(link) and link.partition("#")[0] not in numbers
