"""Arranging: chapters are split and joined, slots get another order, and items other ids."""

from bookpack.books import Book
from bookpack.chapters import HEAD_LEVELS, MOST_TOKENS, is_id
from bookpack.checks import different_ids, require_chapter, require_within
from bookpack.defects import require_sound, slot_numbers
from bookpack.errors import BadNames, BadOrder, NotInSlots, NotNeighbors, TooMany
from bookpack.links import anchors_in, targets
from bookpack.outcomes import Outcome, same_ways
from bookpack.parts import MOST_ELEMENTS, is_chapter_item
from bookpack.rewriting import lowered, relinked_contents, relinked_items, renamed
from bookpack.trees import child_end

_MOST_STEM = 12


def split_chapter(book, key, *, level=1):
    """Cut a chapter before its head lines, up to a level; each part gets an item and a slot."""
    require_sound(book)
    require_within("level", level, 1, 3)
    chapter, _ = _chapter_in_slots(book, key)
    cuts = _cuts(chapter, level)
    fields, items, slots, contents = book.plain
    if len(items) + len(cuts) > MOST_ELEMENTS:
        raise TooMany("items")
    taken = {item[0]: True for item in items}
    ids = [key] + _fresh_words(key, taken, len(cuts))
    bounds = [0] + cuts + [len(chapter)]
    parts = [(new, chapter[bounds[at]:bounds[at + 1]]) for at, new in enumerate(ids)]
    moved = {key + "#" + name: new + "#" + name for new, part in parts for name, _ in anchors_in(part)}
    rows = []
    for item in items:
        rows.extend([(new, item[1], part, None) for new, part in parts] if item[0] == key else [item])
    order = []
    for slot in slots:
        order.extend([(new, slot[1]) for new in ids] if slot[0] == key else [slot])
    ways = same_ways(book)
    ways[key] = tuple([(bounds[at], new, 0) for at, new in enumerate(ids)])
    return Outcome(book, _relinked(fields, rows, order, contents, moved), ways)


def join_chapters(book, first, second):
    """Append a chapter to the one whose slot is directly before its own."""
    require_sound(book)
    one, before = _chapter_in_slots(book, first)
    other, behind = _chapter_in_slots(book, second)
    fields, items, slots, contents = book.plain
    if behind != before + 1 or slots[before][1] != slots[behind][1]:
        raise NotNeighbors()
    require_chapter(one + other)
    names = _joined_names(one, other)
    moved = {second + "#" + name: first + "#" + names.get(name, name) for name, _ in anchors_in(other)}
    made = one + renamed(other, "anchor", names)
    rows = []
    for key, kind, content, fallback in items:
        if key != second:
            inner = made if key == first else content
            rows.append((key, kind, inner, first if fallback == second else fallback))
    order = [slot for slot in slots if slot[0] != second]
    ways = same_ways(book)
    ways[second] = ((0, first, len(one)),)
    return Outcome(book, _relinked(fields, rows, order, contents, moved), ways)


def reorder(book, ids):
    """Put the slots of a book in another order."""
    require_sound(book)
    fields, items, slots, contents = book.plain
    if not isinstance(ids, tuple) or len(ids) != len(slots):
        raise BadOrder(None)
    mains = {key: main for key, main in slots}
    order = tuple([(key, mains[key]) for key in different_ids(ids, mains)])
    entries = lowered(_sorted_contents(order, targets(book), contents))
    made = Book(fields=fields, items=items, slots=order, contents=entries)
    return Outcome(book, made, same_ways(book))


def rename(book, names):
    """Give items other ids, as pairs (old, new) tell."""
    require_sound(book)
    given = _given_ids(book, names)
    fields, items, slots, contents = book.plain
    moved = {}
    for link in targets(book):
        key, _, name = link.partition("#")
        moved[link] = given.get(key, key) + "#" + name
    rows = []
    for key, kind, content, fallback in items:
        inner = renamed(content, "image", given) if is_chapter_item(book[key]) else content
        rows.append((given.get(key, key), kind, inner, given.get(fallback, fallback)))
    order = [(given.get(key, key), main) for key, main in slots]
    ways = {key: ((0, given.get(key, key), 0),) for key in same_ways(book)}
    return Outcome(book, _relinked(fields, rows, order, contents, moved), ways)


def _chapter_in_slots(book, key):
    """The chapter with an id, and the number of its slot."""
    chapter = book.chapter(key)
    numbers = slot_numbers(book)
    if key not in numbers:
        raise NotInSlots(key)
    return chapter, numbers[key]


def _cuts(chapter, level):
    """The gaps before the head lines at the top of a chapter, up to a level, but for gap 0."""
    cuts = []
    gap = 0
    while gap < len(chapter):
        if gap > 0 and HEAD_LEVELS.get(chapter[gap][1], level + 1) <= level:
            cuts.append(gap)
        gap = child_end(chapter, gap)
    return cuts


def _fresh_words(word, taken, count):
    """So many words that are not taken, which begin as a word does."""
    made = []
    number = 2
    while len(made) < count:
        new = word[:_MOST_STEM] + str(number)
        if new not in taken:
            made.append(new)
        number += 1
    return made


def _joined_names(one, other):
    """The fresh names for the anchors of a chapter whose names another one has."""
    before = {name: True for name, _ in anchors_in(one)}
    taken = {name: True for name, _ in anchors_in(one + other)}
    names = {}
    for name, _ in anchors_in(other):
        if name in before:
            names[name] = _fresh_words(name, taken, 1)[0]
            taken[names[name]] = True
    return names


def _sorted_contents(slots, reached, contents):
    """Entries by slots and anchors, those of the same place as they stand."""
    numbers = {slot[0]: number for number, slot in enumerate(slots)}
    rows = {}
    for entry in contents:
        key, index = reached[entry[2]]
        rows.setdefault(numbers[key] * MOST_TOKENS + index, []).append(entry)
    return [entry for place in sorted([int(place) for place in rows]) for entry in rows[place]]


def _given_ids(book, names):
    """The new ids, by the old ones."""
    if not isinstance(names, tuple):
        raise BadNames(None)
    given = {}
    taken = {}
    for number, pair in enumerate(names):
        if not _is_renaming(book, pair) or pair[0] in given or pair[1] in taken:
            raise BadNames(number)
        given[pair[0]] = pair[1]
        taken[pair[1]] = True
    # Two items would have the same id.
    if any([new in book and new not in given for new in taken]):
        raise BadNames(None)
    return given


def _is_renaming(book, pair):
    return isinstance(pair, tuple) and len(pair) == 2 and pair[0] in book and is_id(pair[1])


def _relinked(fields, items, slots, contents, moved):
    """The book of these parts, with other links in it."""
    return Book(
        fields=fields,
        items=relinked_items(items, moved),
        slots=tuple(slots),
        contents=relinked_contents(contents, moved),
    )
