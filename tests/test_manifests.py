"""Manifests: the rows of books, and which rows are bad ([87])."""

import random
import re
import unittest

from bookpack.books import Book
from bookpack.errors import BadText
from bookpack.manifests import looked_rows, read_manifest, write_manifest
from tests.making import FIELDS, STRANGE, Case, line, random_book, random_parts

ID = "[a-z][a-z0-9]{0,15}"
TEXT = "[ -$&-~]"
FORMS = (
    re.compile(f"field {ID} {TEXT}{{0,200}}"),
    re.compile(f"item {ID} (?:chapter|(?!chapter )(?!chapter$){ID}(?: {ID})?)"),
    re.compile(f"slot {ID} (?:main|side)"),
    re.compile(f"entry (0|[1-9][0-9]*) {ID}#{ID} {TEXT}{{1,80}}"),
)
FIELD, ITEM, SLOT, ENTRY = "field title A", "item a chapter", "slot a main", "entry 0 a#b One"


def rows_of(*rows):
    return "".join(row + "\n" for row in rows)


def expected_bad(text):
    """The numbers of the bad rows, straight from the words of [87]."""
    rows = text.split("\n")
    bad = []
    counts = [0, 0, 0, 0]
    last = 0
    most = 0
    for number, row in enumerate(rows[:-1], start=1):
        parts = [part for part, form in enumerate(FORMS) if form.fullmatch(row)]
        if not parts or parts[0] < last or counts[parts[0]] == 40:
            bad.append(number)
            continue
        if parts[0] == 3:
            depth = FORMS[3].fullmatch(row).group(1)
            if len(depth) > 2 or int(depth) > most:
                bad.append(number)
                continue
            most = int(depth) + 1
        last = parts[0]
        counts[last] += 1
    return bad + ([len(rows)] if rows[-1] else [])


def heads(book):
    return tuple((key, kind, fallback) for key, kind, _, fallback in book.plain[1])


class ManifestCase(Case):
    def bad(self, text, *numbers):
        """Check which rows of a text are bad."""
        self.assertEqual(looked_rows(text)[1], list(numbers))
        self.assertEqual(expected_bad(text), list(numbers))
        if numbers:
            self.assertError(BadText, {"row": numbers[0], "column": 0}, read_manifest, text)
            self.assertError(BadText, {"row": numbers[0], "column": 0}, read_manifest, text=text)

    def good(self, text, fields=(), heads=(), slots=(), contents=()):
        self.assertEqual(read_manifest(text), (fields, heads, slots, contents))
        self.assertEqual(expected_bad(text), [])

    def bad_rows(self, before, *rows):
        """Check that none of the rows can stand behind those before, alone and with others around."""
        for row in rows:
            self.bad(rows_of(*before, row), len(before) + 1)
            self.bad(rows_of(row), 1)
            self.bad(rows_of(*before, row, row, *before[-1:]), len(before) + 1, len(before) + 2)


class Written(ManifestCase):
    def same(self, book, text):
        self.assertEqual(write_manifest(book), text)
        self.assertEqual(write_manifest(book=book), text)
        fields, _, slots, contents = book.plain
        self.good(text, fields, heads(book), slots, contents)

    def test_nothing(self):
        self.same(Book(), "")

    def test_each_sort_of_row(self):
        book = Book(
            fields=FIELDS,
            items=(("one", "chapter", line("ab"), None), ("fig", "figure", "text", "one"), ("f2", "figure", "", None)),
            slots=(("one", True), ("fig", False)),
            contents=((0, "A", "one#top"), (1, "B", "fig#b"), (0, "C", "x#y")),
        )
        self.same(book, rows_of(
            "field identifier urn:1", "field language en", "field title A Book",
            "item one chapter", "item fig figure one", "item f2 figure",
            "slot one main", "slot fig side",
            "entry 0 one#top A", "entry 1 fig#b B", "entry 0 x#y C",
        ))

    def test_values_and_labels(self):
        values = ("", " ", "  ", " a", "a ", " a  b ", "a" * 200, " " * 200, "field x y", "<&~>\"'\\", "main")
        book = Book(fields=tuple(("x", value) for value in values))
        self.same(book, rows_of(*["field x " + value for value in values]))
        labels = (" ", "  ", " a", "a ", " a  b ", "a" * 80, " " * 80, "a#b", "0")
        book = Book(contents=tuple((0, label, "a#b") for label in labels))
        self.same(book, rows_of(*["entry 0 a#b " + label for label in labels]))

    def test_depths(self):
        book = Book(contents=tuple((depth, "x", "a#b") for depth in range(40)))
        self.same(book, rows_of(*[f"entry {depth} a#b x" for depth in range(40)]))

    def test_forty_of_each(self):
        book = Book(
            fields=(("x", ""),) * 40,
            items=(("a", "figure", "", "b"),) * 40,
            slots=(("a", False),) * 40,
            contents=((0, "x", "a#b"),) * 40,
        )
        self.same(book, rows_of(*["field x "] * 40, *["item a figure b"] * 40, *["slot a side"] * 40, *["entry 0 a#b x"] * 40))

    def test_random(self):
        for seed in range(300):
            for book in (random_book(random.Random(seed)), random_parts(random.Random(seed))):
                self.same(book, write_manifest(book))


class Bad(ManifestCase):
    def test_no_string(self):
        for value in STRANGE + (None, (), b"", Book()):
            if not isinstance(value, str):
                self.assertError(BadText, {"row": 0, "column": 0}, read_manifest, value)

    def test_the_empty_text(self):
        self.good("")
        self.bad("\n", 1)
        self.bad("\n\n", 1, 2)
        self.bad(" ", 1)

    def test_a_last_row_without_a_line_end(self):
        for row in (FIELD, ITEM, SLOT, ENTRY, "x", " "):
            self.bad(row, 1)
            self.bad(rows_of(FIELD) + row, 2)
            self.bad(rows_of(FIELD, "x") + row, 2, 3)

    def test_other_words(self):
        self.bad_rows((FIELD,), "", " ", "x", "fields title A", "Field title A", "title A", "item", "slot", "entry", "field",
                      " field title A", "chapter a", "items a figure", "entries 0 a#b x", "slots a main", "field\ttitle A",
                      "main a slot", "0 a#b x", "size 5")

    def test_fields(self):
        self.good(rows_of("field a ", "field a  ", "field abcdefghijklmnop b"), (("a", ""), ("a", " "), ("abcdefghijklmnop", "b")))
        self.bad_rows((), "field a", "field  a", "field  a b", "field", "field ", "field  ", "field A b", "field 1a b",
                      "field abcdefghijklmnopq b", "field a-b c", "field a " + "b" * 201, "field a %", "field a \t",
                      "field a b\r", "field a \u00e4", "field a \x7f")

    def test_items(self):
        self.good(rows_of("item a chapter", "item a figure", "item a figure a", "item a figure chapter", "item chapter b9"),
                  heads=(("a", "chapter", None), ("a", "figure", None), ("a", "figure", "a"), ("a", "figure", "chapter"),
                         ("chapter", "b9", None)))
        self.bad_rows((ITEM,), "item a", "item a ", "item  a figure", "item a  figure", "item a figure ", "item a figure  b",
                      "item a figure b c", "item a figure b ", "item A figure", "item a Figure", "item a figure B",
                      "item a figure 1", "item a chapter a", "item a chapter ", "item a chapter chapter", " item a figure",
                      "item a figure abcdefghijklmnopq", "item a abcdefghijklmnopq", "item abcdefghijklmnopq figure",
                      "item a fig%", "item a figure\r", "item a None None", "item a figure -")

    def test_slots(self):
        self.good(rows_of("slot a main", "slot a side", "slot main main"), slots=(("a", True), ("a", False), ("main", True)))
        self.bad_rows((SLOT,), "slot a", "slot a ", "slot a other", "slot a Main", "slot a main ", "slot a  main", "slot  a main",
                      "slot A side", "slot a True", "slot a 1", "slot a main side", "slot abcdefghijklmnopq side", "slot main",
                      "slot a#b main")

    def test_entries(self):
        self.good(rows_of("entry 0 a#b x", "entry 1 a#b  ", "entry 1 a#b 0 x", "entry 2 abcdefghijklmnop#abcdefghijklmnop -"),
                  contents=((0, "x", "a#b"), (1, " ", "a#b"), (1, "0 x", "a#b"), (2, "-", "abcdefghijklmnop#abcdefghijklmnop")))
        self.bad_rows((ENTRY,), "entry 0 a#b", "entry 0 a#b ", "entry  0 a#b x", "entry 0  a#b x", "entry 0 a# x",
                      "entry 0 #b x", "entry 0 ab x", "entry 0 a#b#c x", "entry 0 out:x x", "entry 0 A#b x", "entry a#b 0 x",
                      "entry 0 x a#b", "entry x a#b x", "entry 0", "entry 0 ", "entry 0 a#b " + "x" * 81, "entry 0 a#b %",
                      "entry 0 a#b x\t", "entry 0 abcdefghijklmnopq#b x")

    def test_numbers(self):
        self.bad_rows((ENTRY,), "entry 00 a#b x", "entry -0 a#b x", "entry +0 a#b x", "entry -1 a#b x", "entry 0.0 a#b x",
                      "entry 0x0 a#b x", "entry 1_0 a#b x", "entry 1e0 a#b x", "entry \u0660 a#b x", "entry \u00b2 a#b x",
                      "entry " + "9" * 5000 + " a#b x", "entry " + "0" * 5000 + " a#b x", "entry  a#b x", "entry none a#b x")
        self.bad(rows_of(ENTRY, "entry 01 a#b x", "entry +1 a#b x", "entry 1 a#b x", "entry 02 a#b x"), 2, 3, 5)

    def test_depths(self):
        for depth in (1, 2, 39, 40, 1000000000, 10 ** 40):
            self.bad(rows_of(f"entry {depth} a#b x"), 1)
            self.bad(rows_of(FIELD, f"entry {depth} a#b x", ENTRY), 2)
        self.bad(rows_of(ENTRY, "entry 2 a#b x", "entry 1 a#b x", "entry 3 a#b x", "entry 2 a#b x"), 2, 4)
        # Only good entries count: neither a bad label nor a depth that is too great lets the next one be deeper.
        self.bad(rows_of(ENTRY, "entry 1 a#b %", "entry 2 a#b x"), 2, 3)
        self.bad(rows_of("entry 1 a#b x", "entry 2 a#b x", ENTRY, "entry 1 a#b x"), 1, 2)
        self.bad(rows_of(ENTRY, "entry 1 a#b x", "entry 5", "entry 2 a#b x"), 3)

    def test_the_order_of_the_parts(self):
        rows = (FIELD, ITEM, SLOT, ENTRY)
        for first in range(4):
            for second in range(4):
                self.bad(rows_of(rows[first], rows[second]), *([2] if second < first else []))
        self.bad(rows_of(FIELD, SLOT, ITEM, FIELD, SLOT, ENTRY, SLOT, ITEM), 3, 4, 7, 8)
        # A bad row of a later part is none behind which others are bad.
        self.bad(rows_of(FIELD, "slot a", FIELD, "entry 1 a#b x", ITEM, "item a chapter b", FIELD), 2, 4, 6, 7)

    def test_forty_and_one(self):
        for part, row in enumerate((FIELD, ITEM, SLOT, ENTRY)):
            self.bad(rows_of(*[row] * 40))
            self.bad(rows_of(*[row] * 41), 41)
            self.bad(rows_of(*[row] * 43, ENTRY), *([41, 42, 43] + ([44] if part == 3 else [])))
            # Bad rows do not count.
            self.bad(rows_of(*[row] * 20, "x", row + "%", *[row] * 20), 21, 22)
            self.bad(rows_of(*[row] * 20, "x", *[row] * 20, "y", row), 21, 42, 43)
        # An entry that is one too many is none by which a depth is judged.
        self.bad(rows_of(*[ENTRY] * 40, "entry 1 a#b x", "entry 2 a#b x"), 41, 42)

    def test_random(self):
        words = ("field", "item", "slot", "entry", "a", "b2", "chapter", "main", "side", "0", "1", "2", "a#b", "", "A", "%", "x")
        for seed in range(3000):
            chance = random.Random(seed)
            rows = []
            for _ in range(chance.randint(1, 8)):
                if chance.random() < 0.6:
                    rows.append(chance.choice((FIELD, ITEM, SLOT, ENTRY, "entry 1 a#b  ", "item b figure a", "entry 2 a#b x")))
                else:
                    rows.append(" ".join(chance.choices(words, k=chance.randint(1, 5))))
            text = "\n".join(rows) + chance.choice(("", "\n", "\n", "\n"))
            self.bad(text, *expected_bad(text))

    def test_random_changes(self):
        for seed in range(600):
            chance = random.Random(seed)
            text = write_manifest(random_parts(chance))
            at = chance.randint(0, len(text))
            text = text[:at] + chance.choice(("", " ", "0", "a", "\n", "#", "%")) + text[at + chance.randint(0, 1):]
            self.bad(text, *expected_bad(text))

    def test_the_same_tuple_each_time(self):
        self.assertIsInstance(read_manifest(rows_of(FIELD)), tuple)
        for part in read_manifest(rows_of(FIELD, ITEM, SLOT, ENTRY)):
            self.assertIsInstance(part, tuple)


if __name__ == "__main__":
    unittest.main()
