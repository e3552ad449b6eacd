"""Packing: books as archives ([88], [90])."""

import random
import unittest

from bookpack.archives import faults, read_archive
from bookpack.books import Book
from bookpack.defects import defects
from bookpack.errors import BadOctets, Refused
from bookpack.judging import judge
from bookpack.manifests import write_manifest
from bookpack.markup import write_chapter
from bookpack.packing import read_book, write_book
from tests import raw
from tests.making import EXAMPLE, FIELDS, Case, an, book_of, ch, im, line, node, random_book, random_parts

PARA = line("ab")


def names(data):
    return [name for name, _ in read_archive(data)]


class PackingCase(Case):
    def packed(self, book):
        """Check that a book is written as told, and read back."""
        before = book.plain
        data = write_book(book)
        self.assertEqual(faults(data), [])
        entries = read_archive(data)
        self.assertEqual(entries[0], ("bookpack", (49,)))
        self.assertEqual(entries[1], ("manifest", raw.octets(write_manifest(book))))
        for (name, payload), (_, kind, content, _) in zip(entries[2:], book.plain[1], strict=True):
            self.assertEqual(name.split("/")[0], "chapters" if kind == "chapter" else "items")
            self.assertEqual(payload, raw.octets(write_chapter(content) if kind == "chapter" else content))
        self.assertEqual(read_book(data), book)
        self.assertEqual(write_book(book=read_book(data=data)), data)
        self.assertEqual(book.plain, before)
        return data


class Packed(PackingCase):
    def test_octet_by_octet(self):
        book = Book(fields=FIELDS, items=(("one", "chapter", EXAMPLE, None), ("fig", "figure", "A <b>", "one")),
                    slots=(("one", True),), contents=((0, "A", "one#top"),))
        manifest = ("field identifier urn:1\nfield language en\nfield title A Book\nitem one chapter\nitem fig figure one\n"
                    "slot one main\nentry 0 one#top A\n")
        self.assertEqual(self.packed(book), raw.archive(
            ("bookpack", (49,)),
            ("manifest", raw.octets(manifest)),
            ("chapters/one", raw.octets("<head1><#top>A</head1>\n<list>\n</list>\n")),
            ("items/fig", raw.octets("A <b>")),
        ))

    def test_books_without_items(self):
        self.assertEqual(self.packed(Book()), raw.archive(("bookpack", (49,)), ("manifest", ())))
        self.packed(Book(fields=FIELDS, slots=(("a", True),), contents=((0, "x", "a#b"),)))

    def test_ids_told_twice_and_thrice(self):
        row = ("a", "figure", "x", None)
        book = Book(items=(("b", "figure", "", None), row, ("a", "chapter", PARA, None), row, ("b", "chapter", (), None)))
        self.assertEqual(names(self.packed(book))[2:], ["items/b", "items/a", "chapters/a.2", "items/a.3", "chapters/b.4"])
        book = Book(items=(("a", "chapter", PARA, None), ("a", "chapter", (), None)))
        self.assertEqual(names(self.packed(book))[2:], ["chapters/a", "chapters/a.1"])
        book = Book(items=(("abcdefghijklmnop", "chapter", (), None),) * 40)
        found = names(self.packed(book))[2:]
        self.assertEqual(found[0], "chapters/abcdefghijklmnop")
        self.assertEqual(found[1:], [f"chapters/abcdefghijklmnop.{number}" for number in range(1, 40)])

    def test_contents(self):
        for content in ("", " ", "<para>", "&&l;", "a" * 2000, "\\n"):
            book = Book(items=(("a", "figure", content, None), ("b", "chapter", PARA, None)))
            self.assertEqual(read_archive(self.packed(book))[2], ("items/a", raw.octets(content)))
        for chapter in ((), EXAMPLE, line("<&>"), node("para", ch("<", "code", link="a#b"), an("a"), im("b"))):
            self.packed(Book(items=(("a", "chapter", chapter, None),)))

    def test_forty_of_each(self):
        items = tuple((f"i{number}", "chapter", line("a" * 50), None) for number in range(40))
        self.packed(Book(fields=(("x", "y" * 200),) * 40, items=items, slots=(("i1", True),) * 40,
                         contents=((0, "z" * 80, "abcdefghijklmnop#abcdefghijklmnop"),) * 40))

    def test_long_chapters(self):
        loud = ("code", "slant", "strong")
        links = ("abcdefghijklmnop#abcdefghijklmnop", "abcdefghijklmnop#abcdefghijklmno")
        chapter = node("para", *[ch("<", *loud, link=links[number % 2]) for number in range(1998)])
        data = self.packed(Book(items=(("a", "chapter", chapter, None),)))
        self.assertGreater(len(data), 100000)

    def test_random_books(self):
        for seed in range(150):
            self.packed(random_book(random.Random(seed)))
            self.packed(random_parts(random.Random(seed)))


class Read(PackingCase):
    def test_refused_for_the_first_that_judge_tells(self):
        refused = 0
        for seed in range(300):
            chance = random.Random(seed)
            book = random_parts(chance)
            entries = list(read_archive(write_book(book)))
            way = chance.randrange(4)
            if way == 0:
                chance.shuffle(entries)
            elif way == 1:
                del entries[chance.randrange(len(entries))]
            elif way == 2:
                at = chance.randrange(len(entries))
                name, payload = entries[at]
                spot = chance.randint(0, len(payload))
                entries[at] = (name, payload[:spot] + chance.choice(((), (9,), (37,), (60,), (10,))) + payload[spot + 1:])
            data = raw.archive(*entries)
            if way == 3:
                at = chance.randrange(len(data))
                data = data[:at] + ((data[at] + 1) % 256,) + data[at + 1:]
            found = judge(data)
            try:
                made = read_book(data)
            except Refused as error:
                self.assertEqual((error.word, error.path), found[0])
                refused += 1
            else:
                self.assertEqual(found, defects(made))
                self.assertEqual(write_book(made), data)
        self.assertGreater(refused, 150)

    def test_refused(self):
        for data, word, path in (
            ((), "no end", (0,)),
            (raw.archive(), "bad kind", ()),
            (raw.archive(("bookpack", (49,))), "no manifest", ()),
            (raw.archive(("bookpack", (49,)), ("manifest", (50,))), "bad row", (1,)),
            (raw.archive(("bookpack", (49,)), ("manifest", ()), ("a", ())), "needless entry", ("a",)),
        ):
            self.assertError(Refused, {"word": word, "path": path}, read_book, data)

    def test_defects_refuse_nothing(self):
        book = book_of({"a": node("para", im("a"), an("x"), an("x"), ch(".", link="b#y"))}, slots=(), fields=(("date", "x"),),
                       contents=((0, "A", "z#z"),), f=("figure", "", "zz"))
        self.assertGreater(len(defects(book)), 8)
        self.assertEqual(judge(self.packed(book)), defects(book))

    def test_octets_come_first(self):
        for value in raw.NO_TUPLES:
            self.assertError(BadOctets, {"index": None}, read_book, value)
        for value in raw.NO_OCTETS:
            self.assertError(BadOctets, {"index": 1}, read_book, (0, value, None))


if __name__ == "__main__":
    unittest.main()
