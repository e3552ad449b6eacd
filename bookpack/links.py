"""Anchors and links: where they stand in chapters, and where links lead in a book."""

from bookpack.chapters import is_link
from bookpack.checks import require_chapter
from bookpack.errors import BadLink
from bookpack.parts import is_chapter_item, leads_out


def anchors(chapter):
    """The anchors of a chapter, as (name, index)."""
    require_chapter(chapter)
    return anchors_in(chapter)


def links(chapter):
    """The links of a chapter, as (start, end, link)."""
    require_chapter(chapter)
    return links_in(chapter)


def target(book, link):
    """The place (id, index) of the anchor that a link leads to; None if it leads out or to no anchor."""
    if not is_link(link):
        raise BadLink(link)
    if leads_out(link):
        return None
    key, _, wanted = link.partition("#")
    if key not in book or not is_chapter_item(book[key]):
        return None
    for name, index in anchors_in(book.chapter(key)):
        if name == wanted:
            return key, index
    return None


def targets(book):
    """For each link that leads to an anchor of a book the place (id, index) of the anchor."""
    found = {}
    seen = {}
    for item in book.plain[1]:
        key = item[0]
        # Only the first item of an id is the one that links lead to.
        if is_chapter_item(item) and key not in seen:
            for name, index in anchors_in(item[2]):
                found.setdefault(key + "#" + name, (key, index))
        seen[key] = True
    return found


def book_links(book):
    """The links of all chapters of a book, as (id, start, end, link), by items and gaps."""
    return [
        (item[0], start, end, link)
        for item in book.plain[1]
        if is_chapter_item(item)
        for start, end, link in links_in(item[2])
    ]


def anchors_in(chapter):
    """The anchors of what is known to be a chapter."""
    return [(token[1], index) for index, token in enumerate(chapter) if token[0] == "anchor"]


def links_in(chapter):
    """The links of what is known to be a chapter."""
    found = []
    start = 0
    before = None
    for index, token in enumerate(chapter):
        link = token[3] if token[0] == "char" else None
        if link != before:
            if before is not None:
                found.append((start, index, before))
            start = index
            before = link
    # A chapter ends with a close token, so that no run goes on to its end.
    return found
