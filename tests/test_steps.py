"""Rows of steps that are merged chapter by chapter ([72])."""

import random
import unittest

from bookpack.books import Book
from bookpack.branches import merge
from bookpack.drafts import Draft, merge_steps
from bookpack.edits import insert, wrap
from bookpack.errors import BadBranch, Clash
from bookpack.moves import Move
from bookpack.patches import Patch
from tests.making import Case, an, book_of, ch, line, node, op

ABC = line("abc")


def cut(*indexes, size=5):
    return Patch(size, tuple((index, index + 1, ()) for index in indexes))


def put(gap, text, size=5):
    return Patch(size, ((gap, gap, tuple(ch(c) for c in text)),))


def swap(index, text, size=5):
    return Patch(size, ((index, index + 1, tuple(ch(c) for c in text)),))


class Merging(Case):
    def setUp(self):
        self.book = book_of({"a": ABC, "b": ABC, "c": ABC}, f=("figure", "", None))

    def merged(self, ours, theirs, **texts):
        before = self.book.plain
        made = merge_steps(self.book, ours, theirs)
        wanted = self.book
        for key, text in texts.items():
            wanted = wanted.with_chapter(key, line(text))
        self.assertEqual(made, wanted)
        self.assertEqual(self.book.plain, before)

    def clash(self, first, second, place, ours, theirs):
        self.assertError(Clash, {"first": first, "second": second, "place": place}, merge_steps, self.book, ours, theirs)

    def test_no_steps(self):
        self.merged((), ())
        self.assertEqual(merge_steps(book=Book(), ours=(), theirs=()), Book())

    def test_one_side_alone(self):
        steps = (("a", put(1, "x")), ("b", put(1, "y")), ("a", put(1, "z", 6)))
        self.merged(steps, (), a="zxabc", b="yabc")
        self.merged((), steps, a="zxabc", b="yabc")

    def test_one_chapter(self):
        self.merged((("a", put(1, "x")),), (("a", put(4, "y")),), a="xabcy")
        self.merged((("a", put(1, "x")),), (("a", put(1, "y")),), a="xyabc")
        self.merged((("a", put(1, "x")), ("a", cut(2, size=6))), (("a", swap(2, "uv")),), a="xuvc")

    def test_several_chapters(self):
        ours = (("b", put(1, "x")), ("a", cut(1)), ("c", put(2, "q")))
        theirs = (("a", cut(2)), ("b", put(1, "y")), ("a", put(3, "w", 4)))
        self.merged(ours, theirs, a="cw", b="xyabc", c="aqbc")

    def test_examples_of_branches(self):
        ours = (("a", cut(1, 3)),)
        self.merged(ours, (("a", swap(2, "u")),), a="u")
        self.clash(0, 1, 2, ours, (("a", cut(2)), ("a", put(2, "u", 4))))
        self.merged((("a", swap(2, "t")), ("a", put(2, "s"))), (("a", put(2, "u")),), a="asutc")
        self.merged((("a", swap(2, "st")),), (("a", put(2, "u")),), a="austc")

    def test_numbers_of_clashes_count_in_the_whole_rows(self):
        ours = (("b", put(1, "x")), ("c", Patch(5)), ("a", cut(1, 3)))
        theirs = (("b", put(1, "x")), ("a", cut(2)), ("c", Patch(5)), ("c", Patch(5)), ("a", put(2, "u", 4)))
        self.clash(2, 4, 2, ours, theirs)
        self.clash(2, 1, 2, ours[:2] + (("c", swap(2, "q")),), (("b", Patch(5)), ("c", cut(2))))

    def test_chapters_in_the_order_of_their_first_items(self):
        steps = (("c", cut(1)), ("b", cut(2)))
        self.clash(1, 0, 2, steps, steps[::-1])
        items = tuple((key, "chapter", ABC, None) for key in "cabc")
        self.assertError(Clash, {"first": 0, "second": 1, "place": 1}, merge_steps, Book(items=items), steps, steps[::-1])
        made = merge_steps(Book(items=items), (("c", cut(1)),), (("b", cut(1)),))
        self.assertEqual([item[2] for item in made.plain[1]], [line("bc"), ABC, line("bc"), ABC])

    def test_no_chapter_together(self):
        self.clash(0, 0, None, (("a", put(1, "x" * 1000)),), (("a", put(1, "x" * 1000)),))
        ours = (("b", Patch(5)), ("a", Patch(5, ((0, 0, (op("section"),)), (5, 5, (("close", "section"),))))))
        theirs = (("a", Patch(5, ((0, 1, (op("list"), op("item"), op("para"))),
                                  (4, 5, (("close", "para"), ("close", "item"), ("close", "list")))))),)
        made = merge_steps(self.book, ours, theirs).chapter("a")
        self.assertEqual(made, node("section", *node("list", *node("item", *ABC))))

    def test_example_of_wrapping(self):
        ours = (("a", wrap(ABC, 0, 1, "quote")),)
        theirs = (("a", insert(ABC, 0, line("x"))),)
        self.assertEqual(merge_steps(self.book, ours, theirs).chapter("a"), node("quote", *line("x"), *ABC))

    def test_bad_branches(self):
        good = ("a", put(1, "x"))
        for steps in (None, [good], {}, "ab", 1):
            self.assertError(BadBranch, {"side": 0, "number": None}, merge_steps, self.book, steps, None)
            self.assertError(BadBranch, {"side": 1, "number": None}, merge_steps, self.book, (good,), steps)
        for bad in (
            None, 1, "ab", ["a", put(1, "x", 6)], ("a",), ("a", Patch(6), None), (), ("f", Patch(6)), ("z", Patch(6)),
            (None, Patch(6)), (["a"], Patch(6)), ("a", None), ("a", Move(6, 1, 1, 1)), ("a", Patch(5)), ("a", put(0, "x", 6)),
            ("a", Patch(6, (), ((0, "code", True),))), (Patch(6), "a"), ("a", "a"), ("b", Patch(6)), object(), (1, Patch(6)),
        ):
            self.assertError(BadBranch, {"side": 0, "number": 1}, merge_steps, self.book, (good, bad, None), (None,))
            self.assertError(BadBranch, {"side": 1, "number": 1}, merge_steps, self.book, (), (good, bad, None))

    def test_applied_in_their_row(self):
        row = (("a", put(1, "x")), ("b", Patch(5)), ("a", put(1, "y", 6)), ("a", put(1, "z", 7)))
        self.merged(row, (), a="zyxabc")
        self.assertError(BadBranch, {"side": 0, "number": 2}, merge_steps, self.book, (row[0], row[1], row[3]), ())

    def test_bad_branches_come_before_clashes(self):
        self.assertError(BadBranch, {"side": 1, "number": 1}, merge_steps, self.book, (("a", cut(1)),),
                         (("a", cut(1)), ("b", cut(0))))

    def test_logs_of_drafts(self):
        one, other = Draft(self.book), Draft(self.book)
        one.do("a", Move(5, 1, 2, 4))
        one.do("b", put(1, "x"))
        one.together(lambda draft: draft.do("a", put(4, "y")))
        other.do("a", insert(ABC, 1, (an("n"),)))
        made = merge_steps(self.book, one.log, other.log)
        self.assertEqual(made.chapter("a"), node("para", an("n"), ch("b"), ch("c"), ch("a"), ch("y")))
        self.assertEqual(made.chapter("b"), line("xabc"))


class RandomSteps(Case):
    def patch(self, chance, chapter):
        """A random patch of the glyphs of a chapter that is one line."""
        pieces = []
        at = 1
        while at < len(chapter):
            end = min(at + chance.choice((0, 0, 1, 1, 2)), len(chapter) - 1)
            put = tuple(ch(c) for c in chance.choice(("", "", "x", "yz")))
            if chance.random() < 0.3 and (end > at or put):
                pieces.append((at, end, put))
            at = end + 1
        return Patch(len(chapter), tuple(pieces))

    def steps(self, chance, book):
        """A random row of steps that can be done one after the other."""
        draft = Draft(book)
        for _ in range(chance.randint(0, 4)):
            key = chance.choice("ab")
            draft.do(key, self.patch(chance, draft.book.chapter(key)))
        return draft.log

    def test_from_either_side(self):
        merged = clashed = 0
        for seed in range(400):
            chance = random.Random(seed)
            book = book_of({"a": line("abcd"), "b": line("abcdefg")})
            ours, theirs = self.steps(chance, book), self.steps(chance, book)
            try:
                made = merge_steps(book, ours, theirs)
            except Clash as clash:
                clashed += 1
                self.assertEqual(ours[clash.first][0], theirs[clash.second][0])
                continue
            merged += 1
            for side, (one, other) in enumerate(((ours, theirs), (theirs, ours))):
                draft = Draft(book)
                for key, patch in one:
                    draft.do(key, patch)
                for key, kind, content, _ in book.plain[1]:
                    if kind == "chapter":
                        rows = [tuple(patch for at, patch in row if at == key) for row in (ours, theirs)]
                        found = merge(content, *rows)
                        for patch in (found.theirs if side == 0 else found.ours):
                            draft.do(key, patch)
                self.assertEqual(draft.book, made)
        self.assertGreater(merged, 100)
        self.assertGreater(clashed, 10)


if __name__ == "__main__":
    unittest.main()
