"""Updates: the texts of patches, and archives that make a new book of an old one."""

from bookpack.archives import write_archive
from bookpack.differences import MOST_COMPARED, difference
from bookpack.errors import BadPatch, BadText, BookError, Refused
from bookpack.manifests import write_manifest
from bookpack.octets import check_of, require_data, text_octets, text_of
from bookpack.packing import content_octets, write_book
from bookpack.parts import is_chapter_item
from bookpack.patches import Patch
from bookpack.patchrows import change_row, read_changes, read_cut, read_size, read_tokens, token_row
from bookpack.unpacking import CHAPTERS, MARK, item_names, looked_into, made_book, read_content, wrong_octets

_BASE = "base"
_FIRST_NAMES = ("bookupdate", "base", "manifest")
_PATCHES = "patches/"


def write_patch(patch):
    """The text of a patch."""
    rows = ["size " + str(patch.size)]
    for start, end, tokens in patch.pieces:
        rows.append("cut " + str(start) + " " + str(end))
        rows.extend([token_row(token) for token in tokens])
    rows.extend([change_row(change) for change in patch.changes])
    return "".join([row + "\n" for row in rows])


def read_patch(text):
    """The patch that a text writes."""
    if not isinstance(text, str):
        raise BadText(0, 0)
    rows = text.split("\n")
    rest = rows.pop()
    size = read_size(rows[0]) if rows else None
    if size is None:
        raise BadText(1, 0)
    pieces, at = _read_pieces(rows, size)
    changes = read_changes(rows, at)
    try:
        patch = Patch(size, pieces, changes)
    except BadPatch as e:
        # The pieces have been looked at.
        raise BadText(at + e.number + 1, 0) from None
    at += len(changes)
    if at < len(rows) or rest != "":
        raise BadText(at + 1, 0)
    return patch


def make_update(old, new):
    """The update from an old book to a new one."""
    items = new.plain[1]
    names = list(_FIRST_NAMES)
    payloads = [MARK, _base_octets(old), text_octets(write_manifest(new))]
    for item, name in zip(items, item_names(items)):
        one = _compared(old, item[0])
        other = _compared(new, item[0])
        if one is not None and other is not None and name == CHAPTERS + item[0]:
            names.append(_PATCHES + item[0])
            payloads.append(text_octets(write_patch(difference(one, other))))
        else:
            names.append(name)
            payloads.append(content_octets(item))
    return write_archive(tuple([(name, payload) for name, payload in zip(names, payloads)]))


def judge_update(old, data):
    """All that is wrong with an update for a book, as (word, path), of the first sort of which there is anything."""
    require_data(data)
    return _updated(old, data)[1]


def apply_update(old, data):
    """The new book that an update makes of the old one."""
    require_data(data)
    book, found = _updated(old, data)
    if found:
        word, path = found[0]
        raise Refused(word, path)
    return book


def _read_pieces(rows, size):
    """The pieces that the rows from the second one on tell, and the index of the first row behind them."""
    pieces = []
    at = 1
    least = 0
    while at < len(rows):
        cut = read_cut(rows[at], least, size)
        if cut is None:
            break
        start, end = cut
        tokens = read_tokens(rows, at + 1)
        at += 1 + len(tokens)
        # Where nothing is removed, a token has to follow.
        if start == end and not tokens:
            raise BadText(at + 1, 0)
        pieces.append((start, end, tokens))
        least = end + 1
    return tuple(pieces), at


def _base_octets(book):
    return text_octets(str(check_of(write_book(book))))


def _compared(book, key):
    """The chapter that an id stands for; None if there is none, or if it is too long to be compared."""
    if key not in book or not is_chapter_item(book[key]):
        return None
    chapter = book.chapter(key)
    return chapter if len(chapter) <= MOST_COMPARED else None


def _updated(old, data):
    """The book that an update makes of another one, and what is wrong with it; None for the book if anything is."""
    found, payloads, parts, contents = looked_into(data, _FIRST_NAMES, _wanted_names, _read_payload)
    if found:
        return None, found
    if payloads[_BASE] != _base_octets(old):
        return None, [("other base", ())]
    made = []
    for head, content in zip(parts[1], contents):
        chapter = _patched(old, head[0], content) if isinstance(content, Patch) else content
        if chapter is None:
            found.append(("misfit", (_PATCHES + head[0],)))
        made.append(chapter)
    return (None if found else made_book(parts, made)), found


def _wanted_names(heads, payloads):
    """The names of the entries that should be there for items: of patches, where there are some."""
    names = []
    for head, name in zip(heads, item_names(heads)):
        other = _PATCHES + head[0]
        names.append(other if name == CHAPTERS + head[0] and other in payloads else name)
    return names


def _read_payload(name, payload):
    """What the entry of an item has, and a list of what is wrong with it; None for the former if anything is."""
    if not name.startswith(_PATCHES):
        return read_content(name, payload)
    found = wrong_octets(name, payload, True)
    if found:
        return None, found
    try:
        return read_patch(text_of(payload)), []
    except BadText as e:
        return None, [("bad patch", (name, e.row))]


def _patched(book, key, patch):
    """What a patch makes of the chapter with an id; None if it cannot be applied, or if there is no chapter."""
    try:
        return patch.made_of(book.chapter(key))
    except BookError:
        return None
