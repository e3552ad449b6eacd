"""Judging: all that is wrong with an archive of a book, of the first sort of which there is anything ([89], [90])."""

import random
import unittest

from bookpack.archives import read_archive
from bookpack.books import Book
from bookpack.defects import defects
from bookpack.errors import BadOctets, Refused
from bookpack.judging import judge
from bookpack.packing import read_book, write_book
from tests import raw
from tests.making import FIELDS, Case, an, book_of, ch, im, joined, line, node, random_book

BOOK = Book(
    fields=FIELDS,
    items=(("one", "chapter", joined(node("head1", an("top"), ch("A")), node("para", ch("b", link="one#top"), im("fig"))), None),
           ("fig", "figure", "a figure", "one"), ("two", "chapter", line("cd"), None)),
    slots=(("one", True), ("two", False)),
    contents=((0, "A", "one#top"),),
)
ENTRIES = read_archive(write_book(BOOK))
NAMES = [name for name, _ in ENTRIES]
MANIFEST = "".join(chr(octet) for octet in ENTRIES[1][1])


def edited(**payloads):
    """The entries with other payloads, as texts or octets: of the manifest, and of one, fig and two."""
    short = {"one": "chapters/one", "fig": "items/fig", "two": "chapters/two"}
    given = {short.get(key, key): raw.octets(value) if isinstance(value, str) else tuple(value) for key, value in payloads.items()}
    return [(name, given.get(name, payload)) for name, payload in ENTRIES]


def with_rows(manifest, *rows):
    """The entries with this manifest, and with entries that are there for its items."""
    return [("bookpack", (49,)), ("manifest", raw.octets(manifest)), *rows]


class JudgeCase(Case):
    def found(self, entries, *wanted):
        """Check what is wrong with an archive of these entries, or with data."""
        data = entries if isinstance(entries, tuple) else raw.archive(*entries)
        self.assertEqual(judge(data), list(wanted))
        found = judge(data=data)
        self.assertEqual(found, list(wanted))
        found.append(None)
        self.assertEqual(judge(data), list(wanted))
        return data

    def refused(self, entries, *wanted):
        data = self.found(entries, *wanted)
        self.assertError(Refused, {"word": wanted[0][0], "path": wanted[0][1]}, read_book, data)


class Sound(JudgeCase):
    def test_nothing_is_wrong(self):
        self.found(write_book(BOOK))
        self.found(edited())
        for seed in range(60):
            self.found(write_book(random_book(random.Random(seed))))

    def test_defects(self):
        for book in (Book(), book_of({"a": line("a")}, slots=()), book_of({"a": node("para", im("x"), ch(".", link="a#x"))}),
                     book_of({"a": line("a")}, fields=FIELDS[:1] + (("date", "1"),), f=("figure", "", "f"))):
            self.assertNotEqual(defects(book), [])
            self.found(write_book(book), *defects(book))

    def test_each_octet_of_a_small_archive_changed(self):
        book = book_of({"a": line("x")}, fields=(("identifier", "i"), ("language", "en"), ("title", "t")))
        data = write_book(book)
        self.found(data)
        for at in range(len(data)):
            other = data[:at] + ((data[at] + 1 + at % 255) % 256,) + data[at + 1:]
            found = judge(other)
            self.assertNotEqual(found, [])
            self.assertIn(found[0][0], ("no end", "bad directory", "bad entry"))
            self.assertError(Refused, {"word": found[0][0], "path": found[0][1]}, read_book, other)


class Faults(JudgeCase):
    def test_each_word(self):
        self.refused((), ("no end", (0,)))
        data = write_book(BOOK)
        self.refused(data[:-1], ("no end", (0,)))
        start = int.from_bytes(data[-10:-7], "big")
        self.refused(data[:-1] + ((data[-1] + 1) % 256,), ("bad directory", (start,)))
        self.refused((66, 80, 70) + data[3:], ("bad entry", (0,)), ("gap", (0,)))
        self.refused(raw.closed((0,)), ("gap", (0,)))

    def test_they_come_alone(self):
        # Neither the first entry nor the manifest is right.
        body = raw.entry("a", (1,))
        self.refused(raw.closed(body + (0, 0), raw.row("a", 0, (1,))), ("gap", (len(body),)))
        self.refused(raw.closed(body, raw.row("a", 0, (2,))), ("bad entry", (0,)), ("gap", (0,)))


class Kinds(JudgeCase):
    def test_the_first_entry(self):
        manifest = ("manifest", ())
        self.refused([("bookpack", (50,)), manifest], ("bad kind", ()))
        self.refused([("bookpack", ()), manifest], ("bad kind", ()))
        self.refused([("bookpack", (49, 49)), manifest], ("bad kind", ()))
        self.refused([("bookpack.", (49,)), manifest], ("bad kind", ()))
        self.refused([("bookupdate", (49,)), manifest], ("bad kind", ()))
        self.refused([manifest, ("bookpack", (49,))], ("bad kind", ()))
        self.refused([("a", ()), ("bookpack", (49,)), manifest], ("bad kind", ()))

    def test_no_manifest(self):
        self.refused([("bookpack", (49,))], ("no manifest", ()))
        self.refused([("bookpack", (49,)), ("manifests", ()), ("chapters/manifest", ())], ("no manifest", ()))

    def test_both(self):
        self.refused([], ("bad kind", ()), ("no manifest", ()))
        self.refused([("a", (1,)), ("bookpack", (49,))], ("bad kind", ()), ("no manifest", ()))

    def test_they_come_alone(self):
        self.refused([("a", ()), ("manifest", (1, 2, 3))], ("bad kind", ()))


class Rows(JudgeCase):
    def bad(self, manifest, *rows):
        self.refused(edited(manifest=manifest), *[("bad row", (row,)) for row in rows])

    def test_bad_rows(self):
        self.bad("x\n" + MANIFEST, 1)
        self.bad(MANIFEST + "\n", 10)
        self.bad(MANIFEST.replace("slot one main", "slot one"), 7)
        self.bad(MANIFEST.replace("field language en", "field  en").replace("item two", "item Two"), 2, 6)
        self.bad("slot a main\n" + MANIFEST, 2, 3, 4, 5, 6, 7)

    def test_a_last_row_without_a_line_end(self):
        self.bad(MANIFEST[:-1], 9)
        self.bad(MANIFEST + "x", 10)
        self.bad("x", 1)

    def test_a_bad_octet_in_each_row_and_at_each_place(self):
        rows = MANIFEST.split("\n")[:-1]
        self.assertEqual(len(rows), 9)
        for number, row in enumerate(rows):
            for at in range(len(row)):
                for octet in (0, 9, 13, 31, 37, 127, 128, 255):
                    before = raw.octets("".join(each + "\n" for each in rows[:number]) + row[:at])
                    behind = raw.octets(row[at + 1:] + "\n" + "".join(each + "\n" for each in rows[number + 1:]))
                    if at % 5 == octet % 5:
                        self.bad(before + (octet,) + behind, number + 1)

    def test_a_bad_octet_at_a_line_end(self):
        octets = raw.octets(MANIFEST)
        ends = [at for at, octet in enumerate(octets) if octet == 10]
        for octet in (0, 9, 11, 13, 255):
            for number, at in enumerate(ends):
                self.bad(octets[:at] + (octet,) + octets[at:], number + 1)
            self.bad(octets + (octet,), 10)
            self.bad(octets + (octet, 10), 10)
            # In place of a line end it makes one row of two.
            self.bad(octets[:ends[-1]] + (octet,), 9)
            self.bad(octets[:ends[0]] + (octet,) + octets[ends[0] + 1:], 1)

    def test_a_bad_octet_in_values_and_labels(self):
        for octet in (0, 9, 37, 127, 200):
            for row, number in (("field title ", 3), ("entry 0 one#top ", 9)):
                at = MANIFEST.index(row) + len(row)
                octets = raw.octets(MANIFEST)
                self.bad(octets[:at] + (octet,) + octets[at:], number)

    def test_depths(self):
        more = "entry 2 one#top x\nentry 1 one#top x\nentry 3 one#top x\nentry 2 one#top x\n"
        self.bad(MANIFEST + more, 10, 12)
        self.bad(MANIFEST.replace("entry 0", "entry 1") + more, 9, 10, 11, 12, 13)

    def test_they_come_alone(self):
        entries = edited(manifest=MANIFEST + "x\n", one="<para>", fig=(0,))
        self.refused(entries[:2] + [("chapters/zz", ())], ("bad row", (10,)))


class Names(JudgeCase):
    def test_missing_entries(self):
        for number in (2, 3, 4):
            self.refused(list(ENTRIES[:number] + ENTRIES[number + 1:]),
                         ("missing entry", (NAMES[number],)))
        self.refused(list(ENTRIES[:2]), *[("missing entry", (name,)) for name in NAMES[2:]])
        # They are told in the order in which they should stand, wherever the others are.
        self.refused([ENTRIES[0], ENTRIES[3], ENTRIES[1]], ("missing entry", ("chapters/one",)), ("missing entry", ("chapters/two",)))

    def test_needless_entries(self):
        for name in ("a", "chapters/three", "items/one", "chapters/fig", "chapters/one.0", "items/fig.1", "patches/one", "base",
                     "bookupdate", "manifest.1"):
            for at in range(1, 6):
                entries = list(ENTRIES)
                entries.insert(at, (name, ()))
                self.refused(entries, ("needless entry", (name,)))
        self.refused([ENTRIES[0], ("z", ()), *ENTRIES[1:4], ("b", ()), ENTRIES[4], ("c", ())],
                     *[("needless entry", (name,)) for name in "zbc"])

    def test_both(self):
        self.refused([ENTRIES[0], ("z", ()), ENTRIES[4], ("y", ()), ENTRIES[1]],
                     ("missing entry", ("chapters/one",)), ("missing entry", ("items/fig",)),
                     ("needless entry", ("z",)), ("needless entry", ("y",)))
        self.refused(edited(manifest=MANIFEST.replace("item fig figure one", "item fig chapter")),
                     ("missing entry", ("chapters/fig",)), ("needless entry", ("items/fig",)))

    def test_misplaced_entries(self):
        one, two, three, four, five = ENTRIES
        self.refused([one, three, two, four, five], ("misplaced entry", ("chapters/one",)))
        self.refused([one, two, three, five, four], ("misplaced entry", ("chapters/two",)))
        self.refused([one, two, five, three, four], ("misplaced entry", ("chapters/two",)))
        self.refused([one, two, four, five, three], ("misplaced entry", ("items/fig",)))
        self.refused([one, five, four, three, two], ("misplaced entry", ("chapters/two",)))

    def test_missing_or_needless_ones_come_before_misplaced_ones(self):
        one, two, three, four, five = ENTRIES
        self.refused([one, five, two, three], ("missing entry", ("items/fig",)))
        self.refused([one, five, two, three, four, ("z", ())], ("needless entry", ("z",)))

    def test_names_with_a_point_and_a_number(self):
        manifest = "item a chapter\nitem a figure\nitem b figure\nitem a chapter\n"
        rows = [("chapters/a", ()), ("items/a.1", ()), ("items/b", ()), ("chapters/a.3", ())]
        book = Book(items=(("a", "chapter", (), None), ("a", "figure", "", None), ("b", "figure", "", None), ("a", "chapter", (), None)))
        self.assertEqual(self.found(with_rows(manifest, *rows), *defects(book)), write_book(book))
        for number, name in ((1, "items/a"), (1, "items/a.2"), (1, "items/a.01"), (1, "items/a.0"), (3, "chapters/a.1")):
            other = list(rows)
            other[number] = (name, ())
            self.refused(with_rows(manifest, *other), ("missing entry", (rows[number][0],)), ("needless entry", (name,)))

    def test_they_come_alone(self):
        entries = edited(one="<para>", fig=(0,))
        self.refused(entries[:-1], ("missing entry", ("chapters/two",)))
        self.refused([*entries[:2], entries[3], entries[2], entries[4]], ("misplaced entry", ("items/fig",)))


class Contents(JudgeCase):
    def test_bad_octets_in_contents(self):
        for octet in (0, 9, 10, 13, 31, 37, 127, 128, 255):
            for before in ((), (97, 98), (32,) * 1999, (32,) * 2000, (32,) * 3000):
                self.refused(edited(fig=before + (octet,)), ("bad octet", ("items/fig", len(before))))
                self.refused(edited(fig=before + (octet, 65, 0)), ("bad octet", ("items/fig", len(before))))
        for octet in (32, 36, 38, 60, 126):
            self.found(edited(fig=(octet,) * 2000))

    def test_bad_octets_in_chapters(self):
        text = raw.octets("<para>ab</para>\n")
        self.found(edited(two=text))
        for octet in (0, 9, 13, 31, 37, 127, 128, 255):
            for at in (0, 6, 7, 15, 16):
                self.refused(edited(two=text[:at] + (octet,) + text[at:]), ("bad octet", ("chapters/two", at)))
            # It comes before markup that is bad ahead of it.
            self.refused(edited(two=(10, 10) + text + (octet, 0)), ("bad octet", ("chapters/two", 18)))
        self.refused(edited(two=text + (10,)), ("bad markup", ("chapters/two", 2, 1)))

    def test_long_contents(self):
        self.found(edited(fig="a" * 2000))
        self.refused(edited(fig="a" * 2001), ("too long", ("items/fig",)))
        self.refused(edited(fig="a" * 150000), ("too long", ("items/fig",)))
        self.found(edited(fig=""))

    def test_bad_markup(self):
        for text, row, column in (
            ("<para>", 1, 7), ("<para>ab</para>", 1, 16), ("<para>ab</para>\n<quote>\n", 3, 1), ("<para>ab</para>\n\n", 2, 1),
            ("<para>a<b</para>\n", 1, 8), ("<para>&</para>\n", 1, 7), ("<para><=code></para>\n", 1, 7), ("a", 1, 1),
            ("<para>" + "a" * 1999 + "</para>\n", 1, 2005), ("<item>\n</item>\n", 1, 1),
        ):
            self.refused(edited(two=text), ("bad markup", ("chapters/two", row, column)))
        text = "<para>a</para>\n<para>b"
        self.refused(edited(two=text), ("bad markup", ("chapters/two", 2, 8)))

    def test_for_each_item_in_order(self):
        self.refused(edited(one="x", fig="a" * 2001, two=(10, 0)),
                     ("bad markup", ("chapters/one", 1, 1)), ("too long", ("items/fig",)), ("bad octet", ("chapters/two", 1)))
        self.refused(edited(two="x", one=(0,)), ("bad octet", ("chapters/one", 0)), ("bad markup", ("chapters/two", 1, 1)))

    def test_items_of_one_id(self):
        manifest = "item a chapter\nitem a figure\nitem a chapter\n"
        rows = [("chapters/a", (10,)), ("items/a.1", (10,)), ("chapters/a.2", raw.octets("<a>"))]
        self.refused(with_rows(manifest, *rows), ("bad markup", ("chapters/a", 1, 1)), ("bad octet", ("items/a.1", 0)),
                     ("bad markup", ("chapters/a.2", 1, 1)))

    def test_they_come_before_defects(self):
        entries = edited(manifest=MANIFEST.replace("slot one main", "slot nine main"), fig=(9,))
        self.refused(entries, ("bad octet", ("items/fig", 0)))
        self.found(edited(manifest=MANIFEST.replace("slot one main", "slot two main")),
                   ("repeated slot", ("slots", 1)), ("outside slots", ("entries", 0)), ("outside slots", ("items", 0, "1.0")))


class Octets(JudgeCase):
    def test_they_come_first(self):
        for value in raw.NO_TUPLES:
            self.assertError(BadOctets, {"index": None}, judge, value)
        data = write_book(BOOK)
        for value in raw.NO_OCTETS:
            self.assertError(BadOctets, {"index": 7}, judge, data[:7] + (value,) + data[8:])
            self.assertError(BadOctets, {"index": 0}, judge, (value,))


if __name__ == "__main__":
    unittest.main()
