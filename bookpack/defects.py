"""Defects: what is wrong with a book, in the order of its parts."""

from bookpack.books import chain
from bookpack.errors import Unsound
from bookpack.links import links_in, targets
from bookpack.parts import is_chapter_item, leads_out
from bookpack.trees import step_over

_NEEDED = ("identifier", "language", "title")
_LETTERS = "abcdefghijklmnopqrstuvwxyz"
_DAY = "0000-00-00"
_DIGITS = "0123456789"
_DAYS = (31, 28, 31, 30, 31, 30, 31, 31, 30, 31, 30, 31)


def defects(book):
    """All defects of a book, as (word, path)."""
    fields, items, slots, contents = book.plain
    reached = targets(book)
    numbers = slot_numbers(book)
    found = _field_defects(fields)
    found.extend(_item_defects(book))
    found.extend(_slot_defects(book, numbers))
    found.extend(_entry_defects(contents, reached, numbers))
    images = {item[0]: True for item in items if not is_chapter_item(book[item[0]])}
    for number, item in enumerate(items):
        if is_chapter_item(item):
            rows = _chapter_defects(item[2], images, reached, numbers)
            found.extend([(word, ("items", number, text)) for word, text in rows])
    return found


def is_sound(book):
    """Whether a book has no defects."""
    return not defects(book)


def require_sound(book):
    """Refuse a book that has a defect."""
    found = defects(book)
    if found:
        word, path = found[0]
        raise Unsound(word, path)


def slot_numbers(book):
    """For each id of a slot the number of the first slot that has it."""
    numbers = {}
    for number, slot in enumerate(book.plain[2]):
        numbers.setdefault(slot[0], number)
    return numbers


def _field_defects(fields):
    given = [name for name, value in fields]
    found = [("missing field", ("fields", name)) for name in _NEEDED if name not in given]
    for number, (name, value) in enumerate(fields):
        path = ("fields", number)
        if name in _NEEDED and name in given[:number]:
            found.append(("repeated field", path))
        if _is_bad_value(name, value):
            found.append(("bad value", path))
    return found


def _is_bad_value(name, value):
    if name == "identifier" or name == "title":
        return value == ""
    if name == "language":
        return not 2 <= len(value) <= 3 or any([c not in _LETTERS for c in value])
    return name == "date" and not _is_day(value)


def _is_day(text):
    """Whether a text is a day of the Gregorian calendar, from the year 1 on."""
    if len(text) != len(_DAY):
        return False
    for c, sign in zip(text, _DAY):
        if c not in (_DIGITS if sign == "0" else "-"):
            return False
    year = int(text[:4])
    month = int(text[5:7])
    day = int(text[8:])
    if year == 0 or not 1 <= month <= 12:
        return False
    is_leap = year % 4 == 0 and (year % 100 != 0 or year % 400 == 0)
    last = 29 if is_leap and month == 2 else _DAYS[month - 1]
    return 1 <= day <= last


def _item_defects(book):
    found = []
    seen = {}
    for number, (key, kind, content, fallback) in enumerate(book.plain[1]):
        path = ("items", number)
        if key in seen:
            found.append(("repeated item", path))
        elif fallback is not None:
            if fallback not in book:
                found.append(("unknown fallback", path))
            elif _leads_to(book, fallback, key):
                found.append(("fallback ring", path))
        seen[key] = True
    return found


def _leads_to(book, key, wanted):
    """Whether an id is in the chain of another one."""
    return wanted in list(chain(book, key))


def _slot_defects(book, numbers):
    slots = book.plain[2]
    found = []
    if not any([main for key, main in slots]):
        found.append(("no main slot", ("slots",)))
    for number, (key, main) in enumerate(slots):
        path = ("slots", number)
        if key not in book:
            found.append(("unknown item", path))
        elif numbers[key] != number:
            found.append(("repeated slot", path))
        elif not any([is_chapter_item(book[each]) for each in chain(book, key)]):
            found.append(("no chapter", path))
    return found


def _link_defect(link, reached, numbers):
    """What is wrong with a link that leads not out, None if nothing is."""
    if link not in reached:
        return "unknown target"
    return None if reached[link][0] in numbers else "outside slots"


def _entry_defects(contents, reached, numbers):
    found = []
    greatest = (-1, -1)
    for number, (depth, label, link) in enumerate(contents):
        path = ("entries", number)
        word = _link_defect(link, reached, numbers)
        if word is not None:
            found.append((word, path))
            continue
        key, index = reached[link]
        place = (numbers[key], index)
        if place < greatest:
            found.append(("goes back", path))
        else:
            greatest = place
    return found


def _chapter_defects(chapter, images, reached, numbers):
    """The defects (word, text of the spot) of a chapter; images has the ids of what images may show."""
    begins = {start: link for start, end, link in links_in(chapter) if not leads_out(link)}
    found = []
    seen = {}
    counts = [0]
    for index, token in enumerate(chapter):
        word = None
        if token[0] == "anchor":
            if token[1] in seen:
                word = "repeated anchor"
            seen[token[1]] = True
        elif token[0] == "image":
            if token[1] not in images:
                word = "unknown image"
        elif index in begins:
            word = _link_defect(begins[index], reached, numbers)
        if word is not None:
            found.append((word, ".".join([str(count) for count in counts])))
        step_over(counts, token)
    return found
