"""Recovering: books made of what is sound in one or more copies of an archive ([91])."""

import random
import unittest

from bookpack.archives import read_archive
from bookpack.books import Book
from bookpack.defects import defects
from bookpack.errors import BadOctets, NoMain, Unrecoverable
from bookpack.judging import Recovered, judge, recover
from bookpack.packing import write_book
from bookpack.pruning import without
from bookpack.salvaging import salvage
from tests import raw
from tests.making import FIELDS, Case, an, book_of, ch, im, joined, line, node, random_book

BLANK = ("char", " ", (), None)
BOOK = Book(
    fields=FIELDS,
    items=(
        ("one", "chapter", joined(node("head1", an("top"), ch("A")), node("para", ch("b", link="two#x"), im("fig"))), None),
        ("fig", "figure", "a figure", "one"),
        ("two", "chapter", node("para", an("x"), ch("c", link="one#top")), None),
        ("three", "chapter", line("cd"), None),
    ),
    slots=(("one", True), ("two", False), ("three", True)),
    contents=((0, "A", "one#top"), (1, "X", "two#x")),
)
ENTRIES = read_archive(write_book(BOOK))
NAMES = {"one": "chapters/one", "fig": "items/fig", "two": "chapters/two", "three": "chapters/three"}


def hurt(data, *names):
    """The data with one octet changed in the entries of these names, and in no other one."""
    made = list(data)
    for offset, name, payload in salvage(data):
        if name in names:
            made[offset + 8 + len(name)] ^= 1
    return tuple(made)


class RecoverCase(Case):
    def made(self, book, lost, data, *more):
        """Check what is recovered."""
        found = recover(data, *more)
        self.assertIsInstance(found, Recovered)
        self.assertEqual(found.lost, tuple(lost))
        self.assertIs(type(found.lost), tuple)
        self.assertIsInstance(found.book, Book)
        self.assertEqual(found.book.plain, book.plain)

    def as_without(self, book, lost, data, *more):
        """Check that what is recovered is what without returns."""
        self.made(without(book, tuple(lost)).book, lost, data, *more)

    def refused(self, word, data, *more):
        self.assertError(Unrecoverable, {"word": word}, recover, data, *more)


class OneCopy(RecoverCase):
    def test_nothing_lost(self):
        self.made(BOOK, (), write_book(BOOK))
        self.assertEqual(recover(data=write_book(BOOK)).book, BOOK)
        for seed in range(100):
            book = random_book(random.Random(seed))
            self.made(book, (), write_book(book))

    def test_the_directory_and_the_end_are_not_needed(self):
        data = write_book(BOOK)
        start = int.from_bytes(data[-10:-7], "big")
        for count in (start, start + 1, len(data) - 1):
            self.made(BOOK, (), data[:count])
        self.made(BOOK, (), (0,) * 5 + data[20:start] + (1, 2, 3))
        self.made(BOOK, (), hurt(data, "bookpack"))

    def test_entries_damaged(self):
        data = write_book(BOOK)
        self.as_without(BOOK, ("fig",), hurt(data, "items/fig"))
        self.as_without(BOOK, ("two",), hurt(data, "chapters/two"))
        self.as_without(BOOK, ("one",), hurt(data, "chapters/one"))
        self.as_without(BOOK, ("one", "two"), hurt(data, "chapters/two", "chapters/one"))
        self.as_without(BOOK, ("one", "fig", "two"), hurt(data, "chapters/one", "chapters/two", "items/fig"))

    def test_lost_items_in_order(self):
        data = hurt(write_book(BOOK), "items/fig", "chapters/two")
        self.assertEqual(recover(data).lost, ("fig", "two"))
        entries = [entry for entry in ENTRIES[::-1] if entry[0] not in ("items/fig", "chapters/one")]
        self.assertEqual(recover(raw.archive(*entries)).lost, ("one", "fig"))

    def test_what_pruning_does(self):
        book = recover(hurt(write_book(BOOK), "items/fig", "chapters/two")).book
        self.assertEqual(book.plain[1], (
            ("one", "chapter", joined(node("head1", an("top"), ch("A")), node("para", ch("b"), BLANK)), None),
            ("three", "chapter", line("cd"), None),
        ))
        self.assertEqual(book.plain[2], (("one", True), ("three", True)))
        self.assertEqual(book.plain[3], ((0, "A", "one#top"),))

    def test_fallbacks_of_what_is_lost(self):
        figures = {"f": ("figure", "f", "g"), "g": ("figure", "g", "h"), "h": ("figure", "h", "a")}
        book = book_of({"a": line("a"), "b": line("b")}, slots=(("f", True), ("b", False)), **figures)
        data = write_book(book)
        self.as_without(book, ("g",), hurt(data, "items/g"))
        self.assertEqual([item[3] for item in recover(hurt(data, "items/g")).book.plain[1]], [None, None, "h", "a"])
        self.as_without(book, ("f",), hurt(data, "items/f"))
        self.assertEqual(recover(hurt(data, "items/f")).book.plain[2], (("g", True), ("b", False)))
        self.as_without(book, ("f", "g", "h"), hurt(data, "items/f", "items/g", "items/h"))
        self.assertEqual(recover(hurt(data, "items/f", "items/g", "items/h")).book.plain[2][0], ("a", True))
        self.refused("slots", hurt(data, "chapters/a"))

    def test_random_damage(self):
        for seed in range(300):
            chance = random.Random(seed)
            book = random_book(chance)
            data = list(write_book(book))
            for _ in range(chance.randint(1, 4)):
                data[chance.randrange(len(data))] ^= chance.randint(1, 255)
            self.compare(book, tuple(data))

    def compare(self, book, *copies):
        """Compare with without, for copies in which octets were changed alone."""
        sound = {name for copy in copies for _, name, _ in salvage(copy)}
        lost = [key for key, kind, _, _ in book.plain[1] if ("chapters/" if kind == "chapter" else "items/") + key not in sound]
        if "manifest" not in sound:
            self.refused("manifest", *copies)
            return
        try:
            wanted = without(book, tuple(lost)).book
        except NoMain:
            self.refused("slots", *copies)
            return
        self.made(wanted, lost, *copies)

    def test_random_damage_of_copies(self):
        for seed in range(200):
            chance = random.Random(seed)
            book = random_book(chance)
            copies = []
            for _ in range(chance.randint(2, 3)):
                data = list(write_book(book))
                for _ in range(chance.randint(1, 6)):
                    data[chance.randrange(len(data))] ^= chance.randint(1, 255)
                copies.append(tuple(data))
            self.compare(book, *copies)

    def test_octets_taken_out_and_put_in(self):
        for seed in range(200):
            chance = random.Random(seed)
            book = random_book(chance)
            data = write_book(book)
            for _ in range(chance.randint(1, 3)):
                at = chance.randrange(len(data))
                data = data[:at] + tuple(chance.choices(range(256), k=chance.randint(0, 3))) + data[at + chance.randint(0, 3):]
            self.compare(book, data)


class Copies(RecoverCase):
    def test_copies_of_which_each_lacks_something(self):
        data = write_book(BOOK)
        one, two, three = hurt(data, "items/fig"), hurt(data, "chapters/two"), hurt(data, "chapters/one", "manifest")
        for copies in ((one, two), (two, one), (one, three), (three, one), (one, two, three), (three, two, one), (data, one)):
            self.made(BOOK, (), *copies)
        self.as_without(BOOK, ("fig",), one, one)
        self.as_without(BOOK, ("fig",), one, hurt(data, "items/fig", "chapters/one"))
        self.as_without(BOOK, ("two",), hurt(two, "manifest"), two)

    def test_a_copy_twice(self):
        data = write_book(BOOK)
        self.made(BOOK, (), data, data)
        self.made(BOOK, (), data, data, data)
        self.made(BOOK, (), (), data)
        self.made(BOOK, (), data, ())

    def test_the_first_manifest(self):
        other = Book(fields=FIELDS, items=BOOK.plain[1][:1], slots=(("one", True),))
        alone = without(Book(fields=FIELDS, items=(("one", "chapter", line("q"), None),), slots=(("one", True),)), ()).book
        data, another = write_book(BOOK), write_book(other)
        self.made(BOOK, (), data, another)
        # The link and the image lead to what the other manifest has not.
        chapter = joined(node("head1", an("top"), ch("A")), node("para", ch("b"), im("fig")))
        self.made(other.with_chapter("one", chapter), (), another, data)
        self.made(alone, (), write_book(alone), data)
        self.made(BOOK, (), hurt(another, "manifest"), data)

    def test_manifests_that_are_none(self):
        data = write_book(BOOK)
        for rows in ("x\n", "item one chapter\nitem one figure\n", "slot one main", "field  x\n", "item a chapter\nitem a chapter\n"):
            bad = raw.archive(("manifest", raw.octets(rows)))
            self.made(BOOK, (), bad, data)
            self.made(BOOK, (), data, bad)
            self.refused("manifest", bad)
            self.refused("manifest", bad, bad)
        # Two in one copy: the first one of them that can be one is taken.
        bad = raw.entry("manifest", raw.octets("item one chapter x\n"))
        self.made(BOOK, (), bad + data)
        self.made(BOOK, (), raw.entry("manifest", (9,)) + data)
        empty = raw.entry("manifest", ())
        self.refused("slots", empty + data)
        self.made(BOOK, (), data + empty)

    def test_the_first_good_content(self):
        data = write_book(BOOK)
        good = raw.octets("<para>zz</para>\n")
        for number, bad in enumerate((raw.octets("<para>"), (0,), raw.octets("<para></para>"), raw.octets("x\n"))):
            first = raw.entry("chapters/three", bad) + raw.entry("items/fig", (10,)) + raw.entry("items/fig", (65,) * 2001)
            self.made(BOOK, (), first + data)
            self.made(BOOK, (), first, data)
            self.made(BOOK.with_chapter("three", line("zz")), (), first + raw.entry("chapters/three", good) + data)
            self.made(BOOK.with_chapter("three", line("zz")), (), first, raw.entry("chapters/three", good), data)
            self.made(BOOK, (), data, first, raw.entry("chapters/three", good))
            lost = hurt(data, "chapters/three", "items/fig")
            self.as_without(BOOK, ("fig", "three"), lost, first)
            self.as_without(BOOK, ("fig", "three"), first, lost)
        self.made(BOOK.with_chapter("three", ()), (), raw.entry("chapters/three", ()), data)

    def test_names_of_other_kinds(self):
        # What is a chapter by the manifest is taken from no entry of other items, and the other way around.
        entries = [(name.replace("items/fig", "chapters/fig").replace("chapters/two", "items/two"), payload)
                   for name, payload in ENTRIES]
        self.as_without(BOOK, ("fig", "two"), raw.archive(*entries))
        entries = [(name + ".2" if name == "chapters/two" else name, payload) for name, payload in ENTRIES]
        self.as_without(BOOK, ("two",), raw.archive(*entries))

    def test_an_archive_within_an_entry(self):
        # While the outer entry is sound, what its payload has is not chosen.
        inner = write_book(BOOK)
        outer = raw.archive(("backup", inner))
        self.refused("manifest", outer)
        self.made(BOOK, (), hurt(outer, "backup"))


class Pruned(RecoverCase):
    def test_also_where_nothing_is_lost(self):
        chapter = node("para", an("x"), ch("a", link="b#y"), ch("c", link="a#x"), ch("d", link="zz#x"), ch("e", link="out:x"))
        book = book_of({"a": chapter, "b": node("para", an("y"))}, slots=(("zz", True), ("f", True), ("a", True), ("a", False)),
                       contents=((0, "Y", "b#y"), (1, "X", "a#x"), (2, "Z", "zz#x"), (0, "N", "a#none")),
                       f=("figure", "", "zz"), g=("figure", "", "f"))
        self.assertNotEqual(defects(book), [])
        wanted = Book(
            fields=FIELDS,
            items=(("a", "chapter", node("para", an("x"), ch("a"), ch("c", link="a#x"), ch("d"), ch("e", link="out:x")), None),
                   ("b", "chapter", node("para", an("y")), None), ("f", "figure", "", None), ("g", "figure", "", "f")),
            slots=(("a", True),),
            contents=((0, "X", "a#x"), (0, "N", "a#none")),
        )
        self.made(wanted, (), write_book(book))

    def test_defects_that_may_stay(self):
        chapter = node("para", an("x"), an("x"), im("none"), ch("a", link="a#none"))
        figures = {"f": ("figure", "", "g"), "g": ("figure", "", "f")}
        book = book_of({"a": chapter}, fields=(("title", ""),), contents=((0, "A", "a#x"), (0, "B", "a#none")), **figures)
        self.made(book, (), write_book(book))
        self.assertEqual(judge(write_book(recover(write_book(book)).book)), defects(book))
        self.assertGreater(len(defects(book)), 6)

    def test_rings(self):
        figures = {"f": ("figure", "", "g"), "g": ("figure", "", "h"), "h": ("figure", "", "f")}
        book = book_of({"a": line("a")}, **figures)
        found = recover(hurt(write_book(book), "items/g")).book
        self.assertEqual([item[3] for item in found.plain[1]], [None, "h", "f"])
        found = recover(hurt(write_book(book), "items/g", "items/h")).book
        self.assertEqual([item[3] for item in found.plain[1]], [None, "f"])

    def test_no_main_slot_is_left(self):
        data = write_book(BOOK)
        self.refused("slots", hurt(data, "chapters/one", "chapters/three"))
        self.refused("slots", write_book(book_of({"a": line("a")}, slots=())))
        self.refused("slots", write_book(book_of({"a": line("a")}, slots=(("a", False), ("zz", True)))))
        self.refused("slots", write_book(book_of({"a": line("a")}, slots=(("f", True),), f=("figure", "", None))))
        self.refused("slots", write_book(Book()))
        self.refused("slots", raw.entry("manifest", raw.octets("item a chapter\nslot a main\n")))

    def test_no_manifest(self):
        data = write_book(BOOK)
        self.refused("manifest", ())
        self.refused("manifest", (), (), ())
        self.refused("manifest", hurt(data, "manifest"))
        self.refused("manifest", hurt(data, "manifest", "chapters/one"), hurt(data, "manifest"))
        self.refused("manifest", raw.archive(("manifests", ()), ("chapters/manifest", ())))


class Octets(RecoverCase):
    def test_they_come_first(self):
        data = write_book(BOOK)
        for value in raw.NO_TUPLES:
            self.assertError(BadOctets, {"index": None}, recover, value)
            self.assertError(BadOctets, {"index": None}, recover, (), value)
            self.assertError(BadOctets, {"index": None}, recover, data, data, value)
            self.assertError(BadOctets, {"index": None}, recover, value, (-1,))
        for value in raw.NO_OCTETS:
            self.assertError(BadOctets, {"index": 1}, recover, (0, value))
            self.assertError(BadOctets, {"index": 5}, recover, (), data[:5] + (value,), None)
            self.assertError(BadOctets, {"index": 0}, recover, data, (value,))


if __name__ == "__main__":
    unittest.main()
