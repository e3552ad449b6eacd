"""Items and entries that are written anew, with other links, names and depths."""

from bookpack.aspects import with_value
from bookpack.parts import is_chapter_item


def relinked(chapter, moved):
    """A chapter with other links: moved has for an old link the new one, or None."""
    tokens = [
        with_value(token, "link", moved[token[3]]) if token[0] == "char" and token[3] in moved else token
        for token in chapter
    ]
    return tuple(tokens)


def renamed(chapter, word, names):
    """A chapter with other names in its tokens of this word, anchor or image."""
    tokens = [
        (word, names[token[1]]) if token[0] == word and token[1] in names else token
        for token in chapter
    ]
    return tuple(tokens)


def relinked_items(items, moved):
    """Items with other links in their chapters."""
    rows = [
        (item[0], item[1], relinked(item[2], moved), item[3]) if is_chapter_item(item) else item
        for item in items
    ]
    return tuple(rows)


def relinked_contents(contents, moved):
    """Entries with other links."""
    return tuple([(depth, label, moved.get(link, link)) for depth, label, link in contents])


def lowered(contents):
    """Entries of which each is at most one deeper than the one before, and the first is not deep at all."""
    rows = []
    most = 0
    for depth, label, link in contents:
        low = depth if depth < most else most
        rows.append((low, label, link))
        most = low + 1
    return tuple(rows)
