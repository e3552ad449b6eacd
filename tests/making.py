"""What the tests share: short ways to write tokens, and chapters and patches made by seeded chance."""

import unittest

from bookpack.books import Book
from bookpack.patches import Patch

BOXES = ("section", "quote", "list", "item")
LINES = ("head1", "head2", "head3", "para")
STYLES = ("code", "slant", "strong")
ASPECTS = ("code", "kind", "link", "slant", "strong")
# What is neither an integer within bounds nor a tuple, text or None.
STRANGE = (True, False, 1.0, "1", b"1", [], {}, object(), -1)


class Case(unittest.TestCase):
    """A test case that compares an error's class and fields as well."""

    def assertError(self, error, fields, function, /, *args, **more):
        with self.assertRaises(error) as caught:
            function(*args, **more)
        self.assertIs(type(caught.exception), error)
        self.assertEqual(same_kind(fields), same_kind(vars(caught.exception)))


def same_kind(fields):
    """Fields in which True and 1 differ."""
    return {name: (type(value), value) for name, value in fields.items()}


def op(kind):
    return ("open", kind)


def cl(kind):
    return ("close", kind)


def ch(c, *styles, link=None):
    return ("char", c, styles, link)


def an(name):
    return ("anchor", name)


def im(key):
    return ("image", key)


def node(kind, *inner):
    return (op(kind), *inner, cl(kind))


def line(text, kind="para"):
    return node(kind, *[ch(c) for c in text])


def joined(*parts):
    return tuple(token for part in parts for token in part)


FIELDS = (("identifier", "urn:1"), ("language", "en"), ("title", "A Book"))
EXAMPLE = (op("head1"), an("top"), ch("A"), cl("head1"), op("list"), cl("list"))


def random_glyph(chance):
    word = chance.choice(("char", "char", "char", "anchor", "image"))
    if word != "char":
        return (word, chance.choice(("a", "b1", "top")))
    styles = tuple(style for style in STYLES if chance.random() < 0.3)
    return ("char", chance.choice("ab"), styles, chance.choice((None, None, "a#b", "out:x")))


def random_inner(chance, kind, depth, many):
    """Random tokens that can stand directly in a node of a kind, None for the top."""
    if kind in LINES:
        return [random_glyph(chance) for _ in range(chance.randint(0, many))]
    tokens = []
    for _ in range(chance.randint(0, 3)):
        if kind == "list":
            inner = "item"
        else:
            inner = chance.choice(("section", "quote", "list") + LINES if depth < 4 else LINES)
        if depth < 5:
            tokens.extend([op(inner), *random_inner(chance, inner, depth + 1, many), cl(inner)])
    return tokens


def random_chapter(chance, many=3):
    return tuple(random_inner(chance, None, 0, many))


def random_token(chance):
    word = chance.choice(("open", "close", "glyph", "glyph"))
    if word == "glyph":
        return random_glyph(chance)
    return (word, chance.choice(BOXES + LINES))


def random_change(chance, index, token):
    """A random change that fits a token, or None."""
    if token[0] == "char":
        aspect = chance.choice(("code", "link", "slant", "strong"))
        if aspect == "link":
            return (index, aspect, chance.choice((None, "a#b", "out:x")))
        return (index, aspect, chance.choice((True, False)))
    if token[0] in ("open", "close"):
        return (index, "kind", chance.choice(BOXES if token[1] in BOXES else LINES))
    return None


def random_patch(chance, tokens, rate=0.25, put=random_token):
    """A random patch of which all changes fit; its result need not be a chapter."""
    pieces = []
    changes = {}
    at = 0
    while at <= len(tokens):
        end = at
        if chance.random() < rate:
            while end < len(tokens) and chance.random() < 0.4:
                end += 1
            row = tuple(put(chance) for _ in range(chance.choice((0, 1, 1, 2))))
            if end > at or row:
                pieces.append((at, end, row))
        if end < len(tokens):
            for _ in range(2):
                change = random_change(chance, end, tokens[end])
                if change is not None and chance.random() < rate:
                    changes[change[:2]] = change
        at = end + 1
    return Patch(len(tokens), tuple(pieces), tuple(changes[key] for key in sorted(changes)))


def changed(token, aspect, value):
    """A token with a change made, worked out without the program."""
    if aspect == "kind":
        return (token[0], value)
    if aspect == "link":
        return token[:3] + (value,)
    styles = set(token[2]) - {aspect} | ({aspect} if value else set())
    return token[:2] + (tuple(sorted(styles)),) + token[3:]


def applied(patch, tokens):
    """The tokens that a patch makes, chapter or not, worked out without the program."""
    rows = [[token] for token in tokens] + [[]]
    for index, aspect, value in patch.changes:
        rows[index][0] = changed(rows[index][0], aspect, value)
    for start, end, put in patch.pieces:
        for index in range(start, end):
            rows[index] = []
        rows[start if start < end else end].insert(0, tuple(put))
    made = []
    for row in rows:
        for part in row:
            # What was put is a tuple of tokens, and a token begins with its word.
            made.extend([part] if part and isinstance(part[0], str) else part)
    return tuple(made)


def book_of(items, slots=None, contents=(), fields=None, **others):
    """A book of these chapters, given by their ids, and of these parts; without slots all chapters are main ones."""
    rows = tuple((key, "chapter", tokens, None) for key, tokens in items.items())
    rows = rows + tuple((key, *row) for key, row in others.items())
    if slots is None:
        slots = tuple((key, True) for key in items)
    return Book(fields=FIELDS if fields is None else fields, items=rows, slots=slots, contents=contents)


def random_ids(chance, count):
    """Different random ids, some of them so long that fresh ones are shortened."""
    stems = ["a", "b", "c2", "d", "e9", "f", "abcdefghijkl", "abcdefghijklm", "abcdefghijkl2", "abcdefghijklmnop"]
    return chance.sample(stems, count)


def random_rows(chance, tokens, count):
    """A chapter's tokens with at most count anchors of different names, and with no images and links."""
    names = chance.sample(("a", "b", "c", "top", "top2", "abcdefghijklmn", "abcdefghijkl2", "x1"), count)
    rows = []
    for token in tokens:
        if token[0] == "char":
            rows.append(token[:3] + (None,))
        elif token[0] != "anchor" and token[0] != "image":
            rows.append(token)
        elif names:
            rows.append(("anchor", names.pop()))
    return rows


def random_book(chance):
    """A random book without defects."""
    ids = random_ids(chance, chance.randint(1, 8))
    many = chance.randint(1, len(ids))
    others = ids[many:]
    chapters = {}
    for key in ids[:many]:
        tokens = joined(*[random_chapter(chance, 4) for _ in range(chance.randint(0, 3))])
        chapters[key] = random_rows(chance, tokens, chance.randint(0, 5))
    # Fallbacks lead to what stands before, so that there are no rings.
    fallbacks = {key: chance.choice((None, *ids[:ids.index(key)])) for key in others}
    leading = list(chapters)
    for key in others:
        if fallbacks[key] in leading:
            leading.append(key)
    slots = chance.sample(leading, chance.randint(1, len(leading)))
    places = [
        (number, index, key + "#" + token[1])
        for number, key in enumerate(slots)
        for index, token in enumerate(chapters.get(key, ()))
        if token[0] == "anchor"
    ]
    links = [link for _, _, link in places] + ["out:x", None, None]
    items = [(key, "chapter", tuple(random_filling(chance, rows, links, others)), None) for key, rows in chapters.items()]
    items = items + [(key, chance.choice(("figure", "scene")), "text", fallbacks[key]) for key in others]
    chance.shuffle(items)
    contents = []
    for _, _, link in sorted(chance.sample(places, chance.randint(0, len(places)))):
        most = contents[-1][0] + 1 if contents else 0
        contents.append((chance.randint(0, most), chance.choice(("One", "Two")), link))
    mains = [chance.random() < 0.6 for _ in slots]
    mains[chance.randrange(len(mains))] = True
    return Book(fields=FIELDS, items=tuple(items), slots=tuple(zip(slots, mains)), contents=tuple(contents))


def random_filling(chance, rows, links, others):
    """The tokens with some random links, and with images behind some chars."""
    link = None
    for token in rows:
        if token[0] != "char":
            yield token
            continue
        if chance.random() < 0.5:
            link = chance.choice(links)
        yield token[:3] + (link,)
        if others and chance.random() < 0.2:
            yield ("image", chance.choice(others))


def random_parts(chance):
    """A random book that may have defects of each sort, and several items of one id."""
    ids = ("a", "b", "c", "abcdefghijklmnop")
    texts = ("", " ", "x", " a  b ", "s" * 200, "-<&>~")
    links = ("a#a", "b#top", "c#b1", "d#x")
    items = []
    for _ in range(chance.randint(0, 6)):
        kind = chance.choice(("chapter", "chapter", "figure", "chapters"))
        if kind == "chapter":
            items.append((chance.choice(ids), kind, random_chapter(chance, 4), None))
        else:
            items.append((chance.choice(ids), kind, chance.choice(texts), chance.choice((None, *ids, "zz"))))
    contents = []
    for _ in range(chance.randint(0, 5)):
        most = contents[-1][0] + 1 if contents else 0
        contents.append((chance.randint(0, most), chance.choice((" ", "One", " x  y ", "a" * 80)), chance.choice(links)))
    return Book(
        fields=tuple((chance.choice(("title", "language", "date", "x1")), chance.choice(texts)) for _ in range(chance.randint(0, 5))),
        items=tuple(items),
        slots=tuple((chance.choice(ids + ("zz",)), chance.random() < 0.5) for _ in range(chance.randint(0, 5))),
        contents=tuple(contents),
    )
