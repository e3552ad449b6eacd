"""Defects of books, each sort alone and several in their order ([55], [56])."""

import datetime
import random
import unittest

from bookpack.books import Book, chain
from bookpack.defects import defects, is_sound
from bookpack.links import links, target
from bookpack.spots import spot_at
from tests.making import FIELDS, Case, an, book_of, ch, im, joined, line, node, random_book, random_chapter

PARA = line("ab")
NAMED = node("para", an("x"), ch("."), an("y"))


def figures(*pairs):
    return {key: ("figure", "text", fallback) for key, fallback in pairs}


class Defects(Case):
    def found(self, book, *wanted):
        self.assertEqual(defects(book), list(wanted))
        self.assertIs(is_sound(book), not wanted)

    def fields(self, *rows):
        return book_of({"a": PARA}, fields=FIELDS + rows)

    def test_sound(self):
        self.found(book_of({"a": PARA}))
        self.found(book_of({"a": ()}, slots=(("f", True), ("a", False)), **figures(("f", "a"))))

    def test_all_at_once(self):
        self.found(
            Book(),
            ("missing field", ("fields", "identifier")),
            ("missing field", ("fields", "language")),
            ("missing field", ("fields", "title")),
            ("no main slot", ("slots",)),
        )


class Fields(Defects):
    def test_missing(self):
        for number, (name, _) in enumerate(FIELDS):
            book = book_of({"a": PARA}, fields=FIELDS[:number] + FIELDS[number + 1:])
            self.found(book, ("missing field", ("fields", name)))
        book = book_of({"a": PARA}, fields=(("titles", "x"), ("language", "en")))
        self.found(book, ("missing field", ("fields", "identifier")), ("missing field", ("fields", "title")))

    def test_repeated(self):
        for name, value in FIELDS:
            self.found(self.fields((name, value)), ("repeated field", ("fields", 3)))
        self.found(self.fields(("title", "x"), ("language", "de"), ("title", "y")),
                   ("repeated field", ("fields", 3)), ("repeated field", ("fields", 4)), ("repeated field", ("fields", 5)))
        self.found(self.fields(("date", "2000-01-01"), ("date", "2000-01-01"), ("zzz", ""), ("zzz", "")))

    def test_bad_values(self):
        for name in ("identifier", "title"):
            rows = tuple((key, "" if key == name else value) for key, value in FIELDS)
            number = [key for key, _ in FIELDS].index(name)
            self.found(book_of({"a": PARA}, fields=rows), ("bad value", ("fields", number)))
            rows = tuple((key, " " if key == name else value) for key, value in FIELDS)
            self.found(book_of({"a": PARA}, fields=rows))

    def test_repeated_and_bad(self):
        self.found(self.fields(("title", ""), ("date", "x"), ("language", "")),
                   ("repeated field", ("fields", 3)), ("bad value", ("fields", 3)), ("bad value", ("fields", 4)),
                   ("repeated field", ("fields", 5)), ("bad value", ("fields", 5)))

    def test_languages(self):
        for value, good in (
            ("", False), ("a", False), ("en", True), ("deu", True), ("zz", True), ("abcd", False), ("EN", False),
            ("eN", False), ("e1", False), ("en ", False), ("e-n", False), (" en", False), ("e{", False), ("e`", False),
        ):
            book = book_of({"a": PARA}, fields=(("identifier", "i"), ("title", "t"), ("language", value)))
            self.found(book, *([] if good else [("bad value", ("fields", 2))]))

    def test_dates(self):
        for value, good in (
            ("0001-01-01", True), ("9999-12-31", True), ("1900-02-29", False), ("2000-02-29", True),
            ("0000-01-01", False), ("2024-02-29", True), ("2023-02-29", False), ("2024-02-30", False),
            ("2100-02-29", False), ("2400-02-29", True), ("0004-02-29", True), ("2000-00-10", False),
            ("2000-13-10", False), ("2000-01-00", False), ("2000-01-32", False), ("2000-04-31", False),
            ("2000-04-30", True), ("2000-06-31", False), ("2000-09-31", False), ("2000-11-31", False),
            ("2000-12-31", True), ("2000-1-1", False), ("2000-01-1", False), ("20000-01-1", False), ("", False),
            ("2000/01/01", False), ("2000-01-01 ", False), (" 2000-01-01", False), ("+200-01-01", False),
            ("2000-+1-01", False), ("2000-01-+1", False), ("2 00-01-01", False), ("2_00-01-01", False),
            ("2000-01- 1", False), ("-200-01-01", False), ("2000-0101", False), ("2000-01-011", False),
            ("2000 01-01", False), ("2000-01 01", False), ("yyyy-mm-dd", False), ("2000z01-01", False), ("2000-01z01", False), ("2000-010-1", False),
        ):
            self.found(self.fields(("date", value)), *([] if good else [("bad value", ("fields", 3))]))

    def test_every_day_of_some_years(self):
        for year in (1, 4, 100, 400, 1600, 1900, 2023, 2024, 9999):
            for month in range(14):
                for day in range(33):
                    try:
                        datetime.date(year, month, day)
                        wanted = []
                    except ValueError:
                        wanted = [("bad value", ("fields", 3))]
                    self.assertEqual(defects(self.fields(("date", f"{year:04}-{month:02}-{day:02}"))), wanted)


class Items(Defects):
    def test_repeated(self):
        row = ("a", "chapter", PARA, None)
        book = Book(fields=FIELDS, items=(row, row, ("a", "figure", "", "zzz"), ("a", "figure", "", "a")),
                    slots=(("a", True),))
        self.found(book, *[("repeated item", ("items", number)) for number in (1, 2, 3)])

    def test_unknown_fallback(self):
        self.found(book_of({"a": PARA}, **figures(("f", "z"), ("g", "a"), ("h", None), ("i", "f"))),
                   ("unknown fallback", ("items", 1)))

    def test_rings(self):
        ring = ("fallback ring", ("items", 1))
        self.found(book_of({"a": PARA}, **figures(("f", "f"))), ring)
        self.found(book_of({"a": PARA}, **figures(("f", "g"), ("g", "f"))), ring, ("fallback ring", ("items", 2)))
        self.found(book_of({"a": PARA}, **figures(("f", "g"), ("g", "h"), ("h", "f"))),
                   *[("fallback ring", ("items", number)) for number in (1, 2, 3)])

    def test_what_only_leads_into_a_ring(self):
        self.found(book_of({"a": PARA}, **figures(("e", "f"), ("f", "g"), ("g", "f"), ("h", "e"))),
                   ("fallback ring", ("items", 2)), ("fallback ring", ("items", 3)))
        self.found(book_of({"a": PARA}, **figures(("e", "f"), ("f", "f"))), ("fallback ring", ("items", 2)))

    def test_rings_by_first_items(self):
        # The second item with the id leads nowhere, since the id stands for the first one.
        rows = (("f", "figure", "", "g"), ("g", "figure", "", None), ("g", "figure", "", "f"), ("a", "chapter", (), None))
        book = Book(fields=FIELDS, items=rows, slots=(("a", True),))
        self.found(book, ("repeated item", ("items", 2)))


class Slots(Defects):
    def slots(self, *slots, **others):
        return book_of({"a": PARA, "b": PARA}, slots=slots, **others)

    def test_no_main_slot(self):
        self.found(self.slots(), ("no main slot", ("slots",)))
        self.found(self.slots(("a", False), ("b", False)), ("no main slot", ("slots",)))
        self.found(self.slots(("a", False), ("b", True)))
        # Any slot that is main will do, whatever else is wrong with it.
        self.found(self.slots(("z", True)), ("unknown item", ("slots", 0)))

    def test_unknown_and_repeated(self):
        self.found(self.slots(("a", True), ("z", True), ("a", False), ("z", False), ("b", True), ("a", True)),
                   ("unknown item", ("slots", 1)), ("repeated slot", ("slots", 2)), ("unknown item", ("slots", 3)),
                   ("repeated slot", ("slots", 5)))

    def test_no_chapter(self):
        others = figures(("f", None), ("g", "f"), ("h", "a"), ("i", "h"), ("j", "z"), ("k", "l"), ("l", "k"))
        wanted = [("unknown fallback", ("items", 6)), ("fallback ring", ("items", 7)), ("fallback ring", ("items", 8))]
        found = self.slots(*[(key, True) for key in "fghijkl"], **others)
        self.found(found, *wanted, *[("no chapter", ("slots", number)) for number in (0, 1, 4, 5, 6)])

    def test_repeated_comes_before_no_chapter(self):
        self.found(self.slots(("f", True), ("f", True), ("a", True), **figures(("f", None))),
                   ("no chapter", ("slots", 0)), ("repeated slot", ("slots", 1)))


class Entries(Defects):
    def entries(self, *links, slots=(("a", True), ("b", False)), **more):
        contents = tuple((0, "One", link) for link in links)
        chapters = {"a": NAMED, "b": NAMED, "c": NAMED}
        chapters.update(more)
        return book_of(chapters, slots=slots, contents=contents, **figures(("f", "a")))

    def test_good(self):
        self.found(self.entries("a#x", "a#y", "b#x", "b#y"))
        self.found(self.entries("a#y", "b#x"))

    def test_unknown_target(self):
        self.found(self.entries("a#z", "z#x", "f#x", "a#x"), *[("unknown target", ("entries", at)) for at in (0, 1, 2)])

    def test_outside_slots(self):
        self.found(self.entries("c#x", "a#x", "c#y", "c#z"), ("outside slots", ("entries", 0)),
                   ("outside slots", ("entries", 2)), ("unknown target", ("entries", 3)))

    def test_goes_back(self):
        self.found(self.entries("a#y", "a#x"), ("goes back", ("entries", 1)))
        self.found(self.entries("b#x", "a#y", "b#x"), ("goes back", ("entries", 1)))
        self.found(self.entries("a#x", "a#x", "a#y", "a#y"))
        # The greatest one counts, not the one directly before.
        self.found(self.entries("b#y", "a#x", "a#y", "b#x", "b#y"), *[("goes back", ("entries", at)) for at in (1, 2, 3)])

    def test_entries_without_a_place_do_not_count(self):
        self.found(self.entries("a#y", "c#x", "z#z", "a#y", "a#x"), ("outside slots", ("entries", 1)),
                   ("unknown target", ("entries", 2)), ("goes back", ("entries", 4)))

    def test_slots_told_twice(self):
        slots = (("a", True), ("b", True), ("a", True))
        self.found(self.entries("a#x", "b#x", "a#y", slots=slots), ("repeated slot", ("slots", 2)),
                   ("goes back", ("entries", 2)))

    def test_order_of_slots_not_of_items(self):
        self.found(self.entries("b#x", "a#x", slots=(("b", True), ("a", True))))
        self.found(self.entries("a#x", "b#x", slots=(("b", True), ("a", True))), ("goes back", ("entries", 1)))

    def test_an_anchor_told_twice(self):
        again = node("para", an("x"), an("y"), an("x"))
        repeated = ("repeated anchor", ("items", 0, "0.2"))
        self.found(self.entries("a#x", "a#y", a=again), repeated)
        self.found(self.entries("a#y", "a#x", a=again), ("goes back", ("entries", 1)), repeated)


class Chapters(Defects):
    def chapter(self, *inner):
        return book_of({"a": node("para", *inner), "b": NAMED, "c": NAMED}, slots=(("a", True), ("b", True)),
                       **figures(("f", None)))

    def test_good(self):
        self.found(self.chapter(an("x"), an("y"), im("f"), ch("x", link="a#x"), ch("y", link="out:zzz"),
                                ch("z", link="b#y"), ch("z")))

    def test_repeated_anchors(self):
        self.found(self.chapter(an("x"), an("y"), an("x"), ch("."), an("x"), an("y")),
                   *[("repeated anchor", ("items", 0, spot)) for spot in ("0.2", "0.4", "0.5")])

    def test_unknown_images(self):
        self.found(self.chapter(im("z"), im("a"), im("f"), im("b")),
                   *[("unknown image", ("items", 0, spot)) for spot in ("0.0", "0.1", "0.3")])

    def test_links(self):
        self.found(
            self.chapter(ch(".", link="z#x"), ch(".", link="z#x"), ch("."), ch(".", link="b#z"), ch(".", link="c#x"),
                         ch(".", link="c#z"), im("f"), ch(".", link="c#z"), ch(".", link="f#x")),
            ("unknown target", ("items", 0, "0.0")), ("unknown target", ("items", 0, "0.3")),
            ("outside slots", ("items", 0, "0.4")), ("unknown target", ("items", 0, "0.5")),
            ("unknown target", ("items", 0, "0.7")), ("unknown target", ("items", 0, "0.8")),
        )

    def test_order_of_tokens(self):
        rows = joined(line("ab"), node("quote", *node("para", ch(".", link="a#z")), *node("head1", an("x"), an("x"))),
                      node("list", *node("item", *node("para", im("q")))))
        book = book_of({"a": rows})
        self.found(book, ("unknown target", ("items", 0, "1.0.0")), ("repeated anchor", ("items", 0, "1.1.1")),
                   ("unknown image", ("items", 0, "2.0.0.0")))

    def test_chapters_outside_slots_and_told_twice(self):
        bad = node("para", an("x"), an("x"))
        rows = (("a", "chapter", (), None), ("f", "figure", "", None), ("a", "chapter", bad, None), ("b", "chapter", bad, None))
        book = Book(fields=FIELDS, items=rows, slots=(("a", True),))
        self.found(book, ("repeated item", ("items", 2)), ("repeated anchor", ("items", 2, "0.1")),
                   ("repeated anchor", ("items", 3, "0.1")))

    def test_ids_told_twice(self):
        # An id stands for its first item: here for a figure, then for a chapter.
        tokens = node("para", im("f"), im("g"), ch(".", link="f#x"))
        rows = (("a", "chapter", tokens, None), ("f", "figure", "", None), ("f", "chapter", NAMED, None),
                ("g", "chapter", (), None), ("g", "figure", "", None))
        book = Book(fields=FIELDS, items=rows, slots=(("a", True), ("f", True)))
        self.found(book, ("repeated item", ("items", 2)), ("repeated item", ("items", 4)), ("no chapter", ("slots", 1)),
                   ("unknown image", ("items", 0, "0.1")), ("unknown target", ("items", 0, "0.2")))

    def test_several_sorts_in_order(self):
        rows = (("a", "chapter", node("para", im("z"), ch(".", link="b#x")), None), ("f", "figure", "", "z"),
                ("b", "chapter", NAMED, None))
        book = Book(fields=(("title", ""),), items=rows, slots=(("a", False), ("q", False)),
                    contents=((0, "One", "b#x"), (1, "Two", "b#z")))
        self.found(
            book,
            ("missing field", ("fields", "identifier")), ("missing field", ("fields", "language")),
            ("bad value", ("fields", 0)), ("unknown fallback", ("items", 1)), ("no main slot", ("slots",)),
            ("unknown item", ("slots", 1)), ("outside slots", ("entries", 0)), ("unknown target", ("entries", 1)),
            ("unknown image", ("items", 0, "0.0")), ("outside slots", ("items", 0, "0.1")),
        )

    def test_lists_are_new_each_time(self):
        book = self.chapter(im("z"))
        first = defects(book)
        self.assertIsInstance(first, list)
        first.clear()
        self.assertEqual(len(defects(book=book)), 1)
        self.assertIs(is_sound(book=book), False)


class RandomBooks(Case):
    def test_sound(self):
        for seed in range(300):
            self.assertEqual(defects(random_book(random.Random(seed))), [])

    def chapter_defects(self, book, number, chapter):
        """What is wrong in a chapter, worked out by the public functions alone."""
        found = []
        begins = {start: link for start, _, link in links(chapter)}
        slots = [key for key, _ in book.plain[2]]
        for index, token in enumerate(chapter):
            word = None
            if token[0] == "anchor" and ("anchor", token[1]) in chapter[:index]:
                word = "repeated anchor"
            if token[0] == "image" and (token[1] not in book or book[token[1]][1] == "chapter"):
                word = "unknown image"
            if index in begins and not begins[index].startswith("out:"):
                place = target(book, begins[index])
                word = "unknown target" if place is None else None if place[0] in slots else "outside slots"
            if word:
                found.append((word, ("items", number, spot_at(chapter, index).text())))
        return found

    def test_chapters(self):
        for seed in range(150):
            chance = random.Random(seed)
            rows = [(chance.choice(("a", "b1", "c")), "chapter", random_chapter(chance), None) for _ in range(3)]
            rows += [(chance.choice(("b1", "top", "f")), "figure", "", chance.choice(("a", "f", "top", None, "z")))]
            slots = tuple((chance.choice(("a", "b1", "f")), chance.random() < 0.5) for _ in range(2))
            book = Book(fields=FIELDS, items=tuple(rows), slots=slots)
            wanted = []
            for number, row in enumerate(rows):
                if row[1] == "chapter":
                    wanted += self.chapter_defects(book, number, row[2])
            found = defects(book)
            self.assertEqual([row for row in found if len(row[1]) == 3], wanted)
            self.assertEqual(sorted(found, key=lambda row: ("fields", "items", "slots", "entries").index(row[1][0])
                                    if len(row[1]) < 3 else 4), found)
            for number, (key, _) in enumerate(slots):
                lost = key in book and all(book[each][1] != "chapter" for each in chain(book, key))
                first = key not in [other for other, _ in slots[:number]]
                self.assertEqual(("no chapter", ("slots", number)) in found, lost and first)


if __name__ == "__main__":
    unittest.main()
