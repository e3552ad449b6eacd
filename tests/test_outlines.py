"""The outline of a book, and a book with its outline as entries ([66])."""

import random
import unittest

from bookpack.books import Book
from bookpack.errors import BadNumber, TooMany
from bookpack.outlines import outline, outlined
from tests.checking import OutcomeCase
from tests.making import FIELDS, an, book_of, ch, im, joined, line, node, random_book

PARA = line("ab")


def head(level, name, label):
    return node("head" + str(level), an(name), *[ch(c) for c in label])


class Outline(OutcomeCase):
    def rows(self, *lines, **more):
        return outline(book_of({"a": joined(*lines)}), **more)

    def test_levels(self):
        lines = (head(1, "x", "One"), head(2, "y", "Two"), PARA, head(3, "z", "Three"), head(1, "w", "Four"))
        rows = [(0, "One", "a#x"), (1, "Two", "a#y"), (2, "Three", "a#z"), (0, "Four", "a#w")]
        self.assertEqual(self.rows(*lines), rows)
        self.assertEqual(self.rows(*lines, levels=3), rows)
        self.assertEqual(self.rows(*lines, levels=2), rows[:2] + rows[3:])
        self.assertEqual(self.rows(*lines, levels=1), [rows[0], rows[3]])

    def test_depths_are_lowered(self):
        lines = (head(3, "a", "A"), head(3, "b", "B"), head(1, "c", "C"), head(3, "d", "D"), head(2, "e", "E"), head(3, "f", "F"))
        self.assertEqual([row[0] for row in self.rows(*lines)], [0, 1, 0, 1, 1, 2])
        self.assertEqual([row[0] for row in self.rows(*lines, levels=2)], [0, 1])

    def test_anchors(self):
        self.assertEqual(self.rows(node("head1", ch("A")), node("head1"), head(2, "x", "B")), [(0, "B", "a#x")])
        self.assertEqual(self.rows(node("head1", ch("A"), an("y"), ch("B"), an("x"))), [(0, "AB", "a#y")])
        # Anchors of other lines count for no head line.
        self.assertEqual(self.rows(node("para", an("x")), node("head1", ch("A")), node("para", an("y"))), [])

    def test_labels(self):
        self.assertEqual(self.rows(head(1, "x", "")), [(0, "untitled", "a#x")])
        self.assertEqual(self.rows(node("head1", an("x"), im("f"))), [(0, "untitled", "a#x")])
        self.assertEqual(self.rows(head(1, "x", " ")), [(0, " ", "a#x")])
        for size in (79, 80, 81, 200):
            label = ("0123456789" * 20)[:size]
            self.assertEqual(self.rows(head(1, "x", label)), [(0, label[:80], "a#x")])
        line_of = node("head1", ch("a", "code"), im("f"), ch("b", link="out:x"), an("x"), ch("c"))
        self.assertEqual(self.rows(line_of), [(0, "abc", "a#x")])

    def test_head_lines_in_boxes(self):
        boxes = joined(
            node("section", *head(1, "x", "X"), *node("quote", *head(2, "y", "Y"))),
            node("list", *node("item", *head(1, "z", "Z"), *PARA)), head(1, "w", "W"),
        )
        self.assertEqual(self.rows(boxes), [(0, "X", "a#x"), (1, "Y", "a#y"), (0, "Z", "a#z"), (0, "W", "a#w")])

    def test_slots(self):
        chapters = {key: head(2, "x", key) for key in ("a", "b", "c")}
        book = book_of(chapters, slots=(("f", True), ("c", True), ("a", False)), f=("figure", "", "b"))
        self.assertEqual(outline(book), [(0, "c", "c#x"), (1, "a", "a#x")])

    def test_every_book(self):
        self.assertEqual(outline(Book()), [])
        rows = (("a", "chapter", head(1, "x", "X") + head(2, "x", "Y"), None), ("a", "chapter", head(1, "z", "Z"), None),
                ("f", "figure", "", None), ("f", "chapter", head(1, "w", "W"), None))
        book = Book(items=rows, slots=(("z", True), ("a", True), ("f", True), ("a", False)))
        self.assertEqual(outline(book=book, levels=2), [(0, "X", "a#x"), (1, "Y", "a#x")] * 2)

    def test_lists_are_new_each_time(self):
        book = book_of({"a": head(1, "x", "X")})
        rows = outline(book)
        self.assertIsInstance(rows, list)
        rows.clear()
        self.assertEqual(outline(book), [(0, "X", "a#x")])

    def test_refuses(self):
        for levels in (0, 4, -1, None, True, "1", 1.0):
            self.assertError(BadNumber, {"name": "levels"}, outline, Book(), levels=levels)
        with self.assertRaises(TypeError):
            outline(Book(), 1)


class Outlined(OutcomeCase):
    def test_new_entries(self):
        one = joined(head(1, "x", "X"), node("para", an("p"), ch(".", link="b#y")))
        book = book_of({"a": one, "b": head(2, "y", "")}, contents=((0, "Old", "a#p"), (0, "Older", "b#y")))
        outcome = self.check(book, outlined(book))
        self.check_carry_refuses(book, outcome)
        fields, items, slots, _ = book.plain
        self.assertEqual(outcome.book.plain, (fields, items, slots, ((0, "X", "a#x"), (1, "untitled", "b#y"))))
        self.assertEqual(outcome.links, [("a", 6, 7, ("a", 6), "kept")])
        self.assertEqual(outcome.carry("a", 5), ("a", 5))
        self.assertEqual(book.plain[3], ((0, "Old", "a#p"), (0, "Older", "b#y")))
        self.assertEqual(outlined(levels=1, book=book).book.plain[3], ((0, "X", "a#x"),))

    def test_forty_entries(self):
        def book(count):
            return book_of({"a": joined(*[head(1 + at // 40, "n" + str(at), "N") for at in range(count)])})
        self.assertEqual(len(self.check(book(40), outlined(book(40))).book.plain[3]), 40)
        self.assertError(TooMany, {"part": "contents"}, outlined, book(41))
        self.assertEqual(len(outline(book(41))), 41)
        self.assertEqual(len(outlined(book(41), levels=1).book.plain[3]), 40)

    def test_errors_in_their_order(self):
        self.check_unsound_first(outlined, levels=0)
        book = book_of({"a": joined(*[head(1, "n" + str(at), "N") for at in range(41)])})
        for levels in (0, 4, None, True, "1"):
            self.assertError(BadNumber, {"name": "levels"}, outlined, book, levels=levels)

    def test_random_books(self):
        for seed in range(200):
            chance = random.Random(seed)
            book = random_book(chance)
            levels = chance.randint(1, 3)
            outcome = self.check(book, outlined(book, levels=levels))
            self.assertEqual(list(outcome.book.plain[3]), outline(book, levels=levels))
            self.assertEqual(outcome.book.plain[:3], book.plain[:3])
            self.assertEqual(book.plain[0], FIELDS)
            again = outlined(outcome.book, levels=levels).book
            self.assertEqual(again, outcome.book)


if __name__ == "__main__":
    unittest.main()
