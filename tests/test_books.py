"""Books: what their parts may be, how they are read, chains, readers, and locators ([50] to [52])."""

import random
import unittest

from bookpack.books import Book, chain, locate, locator, readable
from bookpack.errors import BadBook, BadChapter, BadNumber, BadText, NoChapter, NoItem, NoSpot
from bookpack.spots import spot_at
from tests.making import (
    EXAMPLE, FIELDS, STRANGE, Case, an, book_of, ch, cl, joined, line, node, op, random_book, random_chapter,
)

PARA = line("ab")
CHAPTER = ("a", "chapter", PARA, None)
FIGURE = ("f", "figure", "a figure", None)
ROWS = {"fields": ("f", "v"), "items": FIGURE, "slots": ("a", True), "contents": (0, "One", "a#b")}
# Objects that are no ids, and some that could be taken for one.
NO_IDS = (None, True, 1, "", "A", "1a", "a_", "a" * 17, " a", ("a",), ["a"], {"a": 1}, b"a", object())


class Parts(Case):
    def refused(self, part, number, rows):
        self.assertError(BadBook, {"part": part, "number": number}, Book, **{part: rows})

    def taken(self, part, rows):
        number = ("fields", "items", "slots", "contents").index(part)
        self.assertEqual(Book(**{part: rows}).plain[number], rows)

    def test_no_tuple(self):
        for part in ("fields", "items", "slots", "contents"):
            for rows in (None, [], {}, "", 0, True, set(), object()):
                self.refused(part, None, rows)
            self.taken(part, ())

    def test_forty_elements(self):
        for part, row in ROWS.items():
            self.taken(part, (row,) * 40)
            self.refused(part, None, (row,) * 41)
            self.refused(part, None, (row,) * 40 + (None,))
            self.refused(part, 39, (row,) * 39 + (None,))

    def test_elements_that_are_no_tuples_or_of_another_size(self):
        for part, row in ROWS.items():
            for bad in (list(row), row + (None,), row[:-1], (), None, 1, "ab", {}, row[0], object()):
                self.refused(part, 1, (row, bad, row))

    def test_fields(self):
        for name in NO_IDS:
            self.refused("fields", 0, ((name, "v"),))
        for value in ("", " ", "a" * 200, " ~!", "a b "):
            self.taken("fields", (("title", value),))
        for value in (None, 1, True, b"a", ("a",), ["a"], "a" * 201, "%", "a%", "\n", "\x1f", "\x7f", "\u00e9"):
            self.refused("fields", 0, (("title", value),))
        self.taken("fields", (("title", "a"), ("title", "b"), ("zzz", "")))

    def test_items(self):
        for key in NO_IDS:
            self.refused("items", 0, ((key, "figure", "", None),))
            self.refused("items", 0, (("a", key, "", None),))
            if key is not None:
                self.refused("items", 0, (("a", "figure", "", key),))
        for row in (("a", "figure", "", None), ("a", "figure", "a" * 2000, "a"), ("a" * 16, "b" * 16, " ", "c" * 16)):
            self.taken("items", (row,))
        for content in (None, 1, b"", (), [], "a" * 2001, "a%", "a\n", "\t", "\x7f", "\u00e4"):
            self.refused("items", 0, (("a", "figure", content, None),))

    def test_chapters_as_items(self):
        self.taken("items", (("a", "chapter", (), None), CHAPTER, ("b", "chapter", EXAMPLE, None)))
        self.refused("items", 1, (FIGURE, ("a", "chapter", PARA, "f")))
        for content in ("text", "", None, list(PARA), PARA[:-1], PARA + (cl("para"),), (1,), (ch("a"),)):
            self.refused("items", 1, (CHAPTER, ("b", "chapter", content, None)))
        # The content of another item is text, even if it could be a chapter.
        self.refused("items", 0, (("a", "figure", PARA, None),))
        self.refused("items", 0, (("a", "chapters", PARA, None),))

    def test_long_chapters(self):
        self.taken("items", (("a", "chapter", line("a" * 1998), None),))
        self.refused("items", 0, (("a", "chapter", line("a" * 1999), None),))

    def test_slots(self):
        for key in NO_IDS:
            self.refused("slots", 0, ((key, True),))
        self.taken("slots", (("a", True), ("b", False), ("a", True)))
        for main in (1, 0, None, "True", "", (), 1.0):
            self.refused("slots", 0, (("a", main),))

    def test_contents(self):
        self.taken("contents", ((0, "One", "a#b"), (1, "a" * 80, "a" * 16 + "#" + "b" * 16), (0, " ", "a#b")))
        for depth in (-1, True, False, None, "0", 0.0, 1):
            self.refused("contents", 0, ((depth, "One", "a#b"),))
        for label in ("", "a" * 81, None, 1, b"a", "a%", "a\n", ["a"], ("a",)):
            self.refused("contents", 0, ((0, label, "a#b"),))
        for link in ("out:x", "a", "a#", "#b", "a#b#c", "A#b", "", None, 1, ["a#b"], ("a", "b"), b"a#b"):
            self.refused("contents", 0, ((0, "One", link),))

    def test_depths(self):
        def rows(*depths):
            return tuple((depth, "One", "a#b") for depth in depths)
        self.taken("contents", rows(0, 1, 2, 3, 1, 2, 0, 0, 1))
        self.taken("contents", rows(*range(40)))
        self.refused("contents", 0, rows(1))
        self.refused("contents", 1, rows(0, 2))
        self.refused("contents", 3, rows(0, 1, 0, 2))
        self.refused("contents", 2, rows(0, 1, 3, 2))
        self.refused("contents", 2, rows(0, 1, -1))
        self.refused("contents", 1, rows(0, True))

    def test_the_first_part_comes_first(self):
        parts = {"fields": [], "items": (1,), "slots": None, "contents": ((1, "One", "a#b"),)}
        numbers = {"fields": None, "items": 0, "slots": None, "contents": 0}
        for part in ("fields", "items", "slots", "contents"):
            self.assertError(BadBook, {"part": part, "number": numbers[part]}, Book, **parts)
            del parts[part]
        self.assertEqual(Book(**parts).plain, ((), (), (), ()))

    def test_the_first_element_comes_first(self):
        self.refused("fields", 1, (("a", ""), None, 1, ("a", "%")))
        self.refused("items", 1, (CHAPTER, ("a", "chapter", PARA, "a"), None))

    def test_parameters_are_passed_by_name(self):
        with self.assertRaises(TypeError):
            Book(())
        with self.assertRaises(TypeError):
            Book(entries=())


class Reading(Case):
    def setUp(self):
        self.again = ("a", "figure", "another one", None)
        self.book = Book(
            fields=FIELDS,
            items=(CHAPTER, FIGURE, self.again, ("e", "chapter", (), None)),
            slots=(("a", True),),
            contents=(),
        )

    def test_plain(self):
        self.assertEqual(self.book.plain, (FIELDS, (CHAPTER, FIGURE, self.again, ("e", "chapter", (), None)),
                                           (("a", True),), ()))
        self.assertEqual(Book().plain, ((), (), (), ()))
        with self.assertRaises(AttributeError):
            self.book.plain = ()

    def test_by_id(self):
        self.assertEqual(self.book["a"], CHAPTER)
        self.assertEqual(self.book["f"], FIGURE)
        for key in ("b", "", 0, 1, -1, None, [], {}, ("a",), object(), b"a", slice(0, 1), True):
            self.assertError(NoItem, {"key": key}, lambda: self.book[key])
            self.assertError(NoItem, {"key": key}, self.book.chapter, key)
            self.assertError(NoItem, {"key": key}, self.book.with_chapter, key, ())

    def test_in(self):
        self.assertIs("a" in self.book, True)
        for value in ("b", "", 0, None, [], {}, set(), CHAPTER, ("a",), object(), b"a", self.book, 1.5):
            self.assertIs(value in self.book, False)

    def test_len(self):
        self.assertEqual(len(self.book), 4)
        self.assertEqual(len(Book()), 0)

    def test_equal(self):
        one = book_of({"a": PARA}, f=("figure", "x", "a"))
        self.assertTrue(one == book_of({"a": tuple(PARA)}, f=("figure", "x", "a")))
        self.assertFalse(one != book_of({"a": PARA}, f=("figure", "x", "a")))
        for other in (
            book_of({"a": PARA}, f=("figure", "x", None)),
            book_of({"a": PARA + PARA}, f=("figure", "x", "a")),
            book_of({"a": PARA}, fields=(), f=("figure", "x", "a")),
            book_of({"a": PARA}, slots=(("a", False),), f=("figure", "x", "a")),
            book_of({"a": PARA}, contents=((0, "One", "a#b"),), f=("figure", "x", "a")),
            one.plain, None, 0, "a", [], object(),
        ):
            self.assertIs(one == other, False)
            self.assertTrue(one != other)

    def test_iterating(self):
        for book in (self.book, Book()):
            for function in (iter, list, tuple, dict, sorted):
                with self.assertRaises(TypeError):
                    function(book)
            with self.assertRaises(TypeError):
                for _ in book:
                    pass

    def test_chapter(self):
        self.assertEqual(self.book.chapter("a"), PARA)
        self.assertEqual(self.book.chapter(key="e"), ())
        self.assertError(NoChapter, {"key": "f"}, self.book.chapter, "f")

    def test_with_chapter(self):
        before = self.book.plain
        made = self.book.with_chapter("a", EXAMPLE)
        self.assertEqual(made.plain, (FIELDS, (("a", "chapter", EXAMPLE, None),) + before[1][1:], before[2], ()))
        self.assertEqual(self.book.plain, before)
        self.assertIsInstance(made, Book)
        self.assertEqual(made.chapter("a"), EXAMPLE)
        self.assertEqual(made.with_chapter(key="a", chapter=PARA), self.book)
        self.assertEqual(self.book.with_chapter("e", PARA).plain[1][3], ("e", "chapter", PARA, None))

    def test_with_chapter_refuses(self):
        self.assertError(NoItem, {"key": "z"}, self.book.with_chapter, "z", ())
        self.assertError(NoChapter, {"key": "f"}, self.book.with_chapter, "f", ())
        for key in ("z", "f", "a", None):
            self.assertError(BadChapter, {"index": 1}, self.book.with_chapter, key, (op("para"), cl("quote")))
            self.assertError(BadChapter, {"index": -1}, self.book.with_chapter, key, list(PARA))
            self.assertError(BadChapter, {"index": 1999}, self.book.with_chapter, key, line("a" * 1999))
        self.assertEqual(self.book.chapter("a"), PARA)

    def test_an_id_stands_for_its_first_item(self):
        book = Book(items=(("f", "figure", "", "a"), ("a", "figure", "", None), CHAPTER))
        self.assertError(NoChapter, {"key": "a"}, book.chapter, "a")
        self.assertEqual(list(chain(book, "f")), ["f", "a"])


class Chains(Case):
    def book(self, *pairs):
        return Book(items=(CHAPTER,) + tuple((key, "k" + key, "", fallback) for key, fallback in pairs))

    def test_chains(self):
        book = self.book(("b", "c"), ("c", "d"), ("d", None), ("e", "a"))
        self.assertEqual(list(chain(book, "b")), ["b", "c", "d"])
        self.assertEqual(list(chain(book, "c")), ["c", "d"])
        self.assertEqual(list(chain(book, "d")), ["d"])
        self.assertEqual(list(chain(book, "a")), ["a"])
        self.assertEqual(list(chain(book=book, key="e")), ["e", "a"])

    def test_rings(self):
        book = self.book(("b", "c"), ("c", "d"), ("d", "b"), ("e", "c"), ("f", "f"))
        self.assertEqual(list(chain(book, "b")), ["b", "c", "d"])
        self.assertEqual(list(chain(book, "d")), ["d", "b", "c"])
        self.assertEqual(list(chain(book, "e")), ["e", "c", "d", "b"])
        self.assertEqual(list(chain(book, "f")), ["f"])

    def test_unknown_ids(self):
        book = self.book(("b", "c"), ("c", "z"))
        self.assertEqual(list(chain(book, "b")), ["b", "c"])
        for key in ("z", None, 1, [], object()):
            # The call itself raises nothing: the errors come with the first value.
            values = chain(book, key)
            self.assertError(NoItem, {"key": key}, next, values)

    def test_is_a_generator(self):
        values = chain(self.book(("b", "a")), "b")
        self.assertEqual(next(values), "b")
        self.assertEqual(next(values), "a")
        with self.assertRaises(StopIteration):
            next(values)

    def test_readable(self):
        book = self.book(("b", "c"), ("c", "d"), ("d", "a"), ("e", "b"))
        self.assertEqual(readable(book, "b", "kb"), "b")
        self.assertEqual(readable(book, "b", "kd"), "d")
        self.assertEqual(readable(book, "b", "kd", "kc"), "c")
        self.assertEqual(readable(book, "b", "chapter", "kd"), "d")
        self.assertEqual(readable(book, "e", "chapter"), "a")
        self.assertIsNone(readable(book, "b", "ke"))
        self.assertIsNone(readable(book, "b"))
        self.assertIsNone(readable(book, "b", "chapters", "kbb"))
        self.assertEqual(readable(book, "a", "chapter"), "a")

    def test_readable_in_rings(self):
        book = self.book(("b", "c"), ("c", "b"))
        self.assertIsNone(readable(book, "b", "chapter"))
        self.assertEqual(readable(book, "c", "kb"), "b")

    def test_readable_refuses(self):
        book = self.book(("b", "z"))
        self.assertIsNone(readable(book, "b", "kz"))
        for key in ("z", None, 1, [], object()):
            self.assertError(NoItem, {"key": key}, readable, book, key, "chapter")
            self.assertError(NoItem, {"key": key}, readable, book, key)


class Locators(Case):
    def setUp(self):
        self.book = book_of({"a": EXAMPLE, "b": (), "abcdefghijklmnop": PARA}, f=("figure", "", None))

    def test_example(self):
        texts = [locator(self.book, "a", gap) for gap in range(7)]
        self.assertEqual(texts, ["a@0", "a@0.0", "a@0.1", "a@0.2", "a@1", "a@1.0", "a@2"])
        self.assertEqual(locator(key="b", gap=0, book=self.book), "b@0")
        self.assertEqual(locate(text="a@1.0", book=self.book), ("a", 5))
        self.assertEqual(locate(self.book, "abcdefghijklmnop@0.2"), ("abcdefghijklmnop", 3))

    def test_every_gap(self):
        for seed in range(40):
            book = random_book(random.Random(seed))
            for key, kind, content, _ in book.plain[1]:
                if kind == "chapter":
                    for gap in range(len(content) + 1):
                        text = locator(book, key, gap)
                        self.assertEqual(text, key + "@" + spot_at(content, gap).text())
                        self.assertEqual(locate(book, text), (key, gap))

    def test_locator_refuses(self):
        for gap in (-1, 7, None, True, "0", 1.0):
            self.assertError(BadNumber, {"name": "gap"}, locator, self.book, "a", gap)
            self.assertError(NoChapter, {"key": "f"}, locator, self.book, "f", gap)
            for key in ("z", None, [], 1):
                self.assertError(NoItem, {"key": key}, locator, self.book, key, gap)

    def test_texts_that_are_none(self):
        columns = {
            "": 1, "@": 1, "A@0": 1, "1@0": 1, " a@0": 1, "a": 2, "a#b": 2, "a0": 3, "aB@0": 2, "ab": 3, "a@": 3,
            "a@x": 3, "a@00": 4, "a@0.": 5, "a@.": 3, "a@01": 4, "a@0..1": 5, "a@0.0 ": 6, "a@12345": 7, "a@-1": 3,
            "a@0@0": 4, "a@9999.99999": 12, "abcdefghijklmnopq@0": 17, "abcdefghijklmnop": 17, "abcdefghijklmno": 16,
            "abcdefghijklmnop#0": 17, "abcdefghijklmnop@": 18, "z@x": 3, "f@": 3, "a @0": 2, "a\n@0": 2, "\u00e4@0": 1,
        }
        for text, column in columns.items():
            self.assertError(BadText, {"row": 1, "column": column}, locate, self.book, text)

    def test_no_strings(self):
        for text in (None, 1, True, ["a@0"], ("a", 0), b"a@0", object()):
            self.assertError(BadText, {"row": 0, "column": 0}, locate, self.book, text)

    def test_places_that_are_not_there(self):
        self.assertError(NoItem, {"key": "z"}, locate, self.book, "z@0")
        self.assertError(NoItem, {"key": "z"}, locate, self.book, "z@0.0.0")
        self.assertError(NoChapter, {"key": "f"}, locate, self.book, "f@0")
        self.assertError(NoSpot, {"depth": 0}, locate, self.book, "a@3")
        self.assertError(NoSpot, {"depth": 1}, locate, self.book, "a@0.3")
        self.assertError(NoSpot, {"depth": 0}, locate, self.book, "a@2.0")
        self.assertError(NoSpot, {"depth": 1}, locate, self.book, "a@0.0.0")
        self.assertError(NoSpot, {"depth": 0}, locate, self.book, "b@0.0")


class Kept(Case):
    def test_what_was_passed_in_stays(self):
        content = joined(line("ab"), node("quote", *line("c")))
        items = (("a", "chapter", content, None), ("f", "figure", "x", "a"))
        book = Book(fields=FIELDS, items=items, slots=(("a", True),))
        book.with_chapter("a", ())
        list(chain(book, "f"))
        readable(book, "f", "chapter")
        locate(book, locator(book, "a", 3))
        self.assertEqual(items, (("a", "chapter", joined(line("ab"), node("quote", *line("c"))), None),
                                 ("f", "figure", "x", "a")))
        self.assertEqual(book.plain, (FIELDS, items, (("a", True),), ()))

    def test_strange_elements(self):
        for value in STRANGE:
            for part in ("fields", "items", "slots", "contents"):
                self.assertError(BadBook, {"part": part, "number": 0}, Book, **{part: (value,)})

    def test_random_books(self):
        for seed in range(100):
            book = random_book(random.Random(seed))
            fields, items, slots, contents = book.plain
            again = Book(fields=fields, items=items, slots=slots, contents=contents)
            self.assertEqual(again, book)
            chapter = random_chapter(random.Random(seed))
            for number, (key, kind, _, _) in enumerate(items):
                if kind == "chapter":
                    made = book.with_chapter(key, chapter)
                    row = (key, "chapter", chapter, None)
                    self.assertEqual(made.plain, (fields, items[:number] + (row,) + items[number + 1:], slots, contents))

    def test_anchors_may_repeat(self):
        tokens = node("para", an("x"), an("x"))
        self.assertEqual(book_of({"a": tokens}).chapter("a"), tokens)


if __name__ == "__main__":
    unittest.main()
