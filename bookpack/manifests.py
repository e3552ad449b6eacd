"""Manifests: the rows of a book's fields, items, slots and entries."""

from bookpack.errors import BadText
from bookpack.parts import CHAPTER, MOST_ELEMENTS, is_entry, is_field, is_item, is_slot
from bookpack.words import read_number

_PLACES = {"main": True, "side": False}


def write_manifest(book):
    """The manifest of a book."""
    fields, items, slots, contents = book.plain
    rows = [("field", name, value) for name, value in fields]
    rows.extend([("item", key, kind) + (() if fallback is None else (fallback,)) for key, kind, _, fallback in items])
    rows.extend([("slot", key, "main" if main else "side") for key, main in slots])
    rows.extend([("entry", str(depth), link, label) for depth, label, link in contents])
    return "".join([" ".join(list(row)) + "\n" for row in rows])


def read_manifest(text):
    """The fields, the heads (id, kind, fallback) of the items, the slots and the entries that a manifest has."""
    if not isinstance(text, str):
        raise BadText(0, 0)
    parts, bad = looked_rows(text)
    if bad:
        raise BadText(bad[0], 0)
    return parts


def looked_rows(text):
    """The parts that the good rows of a text make, and the numbers of the bad rows."""
    parts = ([], [], [], [])
    bad = []
    last = 0
    rows = text.split("\n")
    for number, row in enumerate(rows[:-1]):
        most = parts[3][-1][0] + 1 if parts[3] else 0
        part, element = _read_row(row, most)
        if element is None or part < last or len(parts[part]) == MOST_ELEMENTS:
            bad.append(number + 1)
        else:
            parts[part].append(element)
            last = part
    if rows[-1] != "":
        bad.append(len(rows))
    return tuple([tuple(part) for part in parts]), bad


def _read_row(row, most):
    """The number of the part that a row belongs to, and the element that it writes; None for each if it is bad.

    An entry is at most this deep.
    """
    word, _, rest = row.partition(" ")
    if word == "field":
        return 0, _read_field(rest)
    if word == "item":
        return 1, _read_head(rest)
    if word == "slot":
        return 2, _read_slot(rest)
    if word == "entry":
        return 3, _read_entry(rest, most)
    return None, None


def _read_field(rest):
    name, space, value = rest.partition(" ")
    return (name, value) if space and is_field((name, value)) else None


def _read_head(rest):
    words = rest.split(" ")
    if len(words) == 2:
        words.append(None)
    if len(words) != 3:
        return None
    key, kind, fallback = words
    # What an item has is not told here; with nothing in it, it has to be one.
    nothing = () if kind == CHAPTER else ""
    return (key, kind, fallback) if is_item((key, kind, nothing, fallback)) else None


def _read_slot(rest):
    key, _, place = rest.partition(" ")
    slot = (key, _PLACES.get(place))
    return slot if is_slot(slot) else None


def _read_entry(rest, most):
    words = rest.split(" ", 2)
    if len(words) < 3:
        return None
    entry = (read_number(words[0]), words[2], words[1])
    return entry if is_entry(entry, most) else None
