"""Anchors, links of a chapter, and where links lead ([53])."""

import random
import unittest

from bookpack.books import Book
from bookpack.errors import BadChapter, BadLink
from bookpack.links import anchors, links, target
from tests.making import EXAMPLE, Case, an, book_of, ch, cl, im, joined, line, node, op, random_book, random_chapter


def naive_links(chapter):
    """The runs, by looking at each pair of gaps."""
    found = []
    for start in range(len(chapter)):
        for end in range(start + 1, len(chapter) + 1):
            run = chapter[start:end]
            values = {token[3] if token[0] == "char" else None for token in run}
            around = [token[3] for token in chapter[max(start - 1, 0):start] + chapter[end:end + 1] if token[0] == "char"]
            if len(values) == 1 and None not in values and run[0][3] not in around:
                found.append((start, end, run[0][3]))
    return found


class Anchors(Case):
    def test_anchors(self):
        self.assertEqual(anchors(EXAMPLE), [("top", 1)])
        self.assertEqual(anchors(()), [])
        chapter = joined(node("para", an("b"), ch("x"), an("a"), im("c")), node("quote", *node("head1", an("b"))))
        self.assertEqual(anchors(chapter=chapter), [("b", 1), ("a", 3), ("b", 8)])

    def test_refuses(self):
        for function in (anchors, links):
            self.assertError(BadChapter, {"index": -1}, function, list(EXAMPLE))
            self.assertError(BadChapter, {"index": -1}, function, None)
            self.assertError(BadChapter, {"index": 0}, function, (an("a"),))
            self.assertError(BadChapter, {"index": 1}, function, (op("para"),))

    def test_lists_are_new_each_time(self):
        chapter = node("para", an("b"), ch("x", link="a#b"))
        for function in (anchors, links):
            first = function(chapter)
            self.assertIsInstance(first, list)
            first.append(None)
            self.assertEqual(function(chapter), first[:-1])


class Links(Case):
    def found(self, *inner):
        return links(node("para", *inner))

    def test_runs(self):
        x, y = ch("x", link="a#b"), ch("y", "code", link="a#b")
        self.assertEqual(self.found(x), [(1, 2, "a#b")])
        self.assertEqual(self.found(x, y, x), [(1, 4, "a#b")])
        self.assertEqual(self.found(ch("."), x, x, ch(".")), [(2, 4, "a#b")])
        self.assertEqual(self.found(x, ch("."), x), [(1, 2, "a#b"), (3, 4, "a#b")])
        self.assertEqual(self.found(ch("."), ch(".", "slant")), [])
        self.assertEqual(links(()), [])
        self.assertEqual(links(chapter=EXAMPLE), [])

    def test_what_parts_them(self):
        x = ch("x", link="a#b")
        self.assertEqual(self.found(x, an("n"), x, x), [(1, 2, "a#b"), (3, 5, "a#b")])
        self.assertEqual(self.found(x, im("n"), x), [(1, 2, "a#b"), (3, 4, "a#b")])
        self.assertEqual(self.found(x, ch("y", link="a#c"), x), [(1, 2, "a#b"), (2, 3, "a#c"), (3, 4, "a#b")])
        self.assertEqual(links(node("para", x) * 2), [(1, 2, "a#b"), (4, 5, "a#b")])
        self.assertEqual(links(node("quote", *node("para", x, x))), [(2, 4, "a#b")])

    def test_out_links(self):
        self.assertEqual(self.found(ch("x", link="out:x"), ch("x", link="out:y")), [(1, 2, "out:x"), (2, 3, "out:y")])

    def test_random_chapters(self):
        for seed in range(200):
            chapter = random_chapter(random.Random(seed), 6)
            self.assertEqual(links(chapter), naive_links(chapter))
            self.assertEqual(anchors(chapter),
                             [(token[1], index) for index, token in enumerate(chapter) if token[0] == "anchor"])


class Targets(Case):
    def setUp(self):
        self.book = book_of(
            {"a": node("para", an("x"), ch("."), an("y"), an("x")), "b": node("para", an("z"))},
            f=("figure", "text", None),
        )

    def test_targets(self):
        self.assertEqual(target(self.book, "a#x"), ("a", 1))
        self.assertEqual(target(self.book, "a#y"), ("a", 3))
        self.assertEqual(target(link="b#z", book=self.book), ("b", 1))

    def test_none(self):
        for link in ("a#z", "b#x", "c#x", "f#x", "out:a", "out:a#x", "out:" + "#" * 20):
            self.assertIsNone(target(self.book, link))

    def test_ids_told_twice(self):
        one, other = node("para", an("x")), node("para", ch("."), an("x"), an("y"))
        book = Book(items=(("a", "chapter", one, None), ("a", "chapter", other, None)))
        self.assertEqual(target(book, "a#x"), ("a", 1))
        self.assertIsNone(target(book, "a#y"))
        book = Book(items=(("a", "figure", "x", None), ("a", "chapter", other, None)))
        self.assertIsNone(target(book, "a#x"))

    def test_no_links(self):
        for link in ("a", "a#", "#x", "A#x", "out:", "out:a b", "out:" + "a" * 21, "", None, 1, True, ["a#x"],
                     ("a", "x"), b"a#x", {"a": 1}, object()):
            self.assertError(BadLink, {"link": link}, target, self.book, link)

    def test_random_books(self):
        for seed in range(100):
            book = random_book(random.Random(seed))
            for key, kind, content, _ in book.plain[1]:
                if kind == "chapter":
                    for name, index in anchors(content):
                        self.assertEqual(target(book, key + "#" + name), (key, index))
                    self.assertIsNone(target(book, key + "#nothing"))


class Kept(Case):
    def test_what_was_passed_in_stays(self):
        chapter = (op("para"), an("b"), ch("x", link="a#b"), cl("para"))
        anchors(chapter)
        links(chapter)
        self.assertEqual(chapter, (op("para"), an("b"), ch("x", link="a#b"), cl("para")))
        self.assertEqual(links(line("a")), [])


if __name__ == "__main__":
    unittest.main()
