"""Drafts: steps that are undone and repeated, marks, and steps done together ([70], [71])."""

import random
import unittest

from bookpack.books import Book
from bookpack.drafts import Draft
from bookpack.edits import delete, insert, restyle, split
from bookpack.errors import BadChapter, BadNumber, BookError, Busy, Misfit, NoChapter, NoItem, NoMark
from bookpack.moves import Move, moving
from bookpack.patches import Patch
from tests.making import Case, an, book_of, ch, line, node, random_book, random_patch

PARA = line("abc")
NO_KEYS = ("z", None, 1, True, ["a"], ("a",), object())


def put(gap, text="x", size=5):
    return Patch(size, ((gap, gap, tuple(ch(c) for c in text)),))


def text_of(draft, key="a"):
    return "".join(token[1] for token in draft.book.chapter(key) if token[0] == "char")


class Stop(Exception):
    pass


class Edits(Case):
    def setUp(self):
        self.book = book_of({"a": PARA, "b": PARA}, f=("figure", "", None))
        self.draft = Draft(self.book)

    def stage(self):
        return self.draft.steps, self.draft.later, len(self.draft.log)

    def test_a_new_draft(self):
        self.assertEqual(self.draft.book, self.book)
        self.assertEqual(self.stage(), (0, 0, 0))
        self.assertEqual(self.draft.log, ())
        self.assertIs(self.draft.undo(), False)
        self.assertIs(self.draft.redo(), False)
        self.assertEqual(Draft(book=self.book).book, self.book)

    def test_edits_by_patches(self):
        self.assertIsNone(self.draft.do("a", put(1)))
        self.assertEqual(text_of(self.draft), "xabc")
        self.assertEqual(self.draft.book, self.book.with_chapter("a", line("xabc")))
        self.assertEqual(self.stage(), (1, 0, 1))
        self.draft.do(key="b", edit=put(4, "y"))
        self.assertEqual((text_of(self.draft), text_of(self.draft, "b")), ("xabc", "abcy"))
        self.assertEqual(self.draft.log, (("a", put(1)), ("b", put(4, "y"))))
        self.assertEqual(self.book, book_of({"a": PARA, "b": PARA}, f=("figure", "", None)))

    def test_edits_by_moves(self):
        move = Move(5, 1, 2, 4)
        self.draft.do("a", move)
        self.assertEqual(text_of(self.draft), "bca")
        self.assertEqual(self.draft.log, (("a", move.patch(PARA)),))
        self.assertIsInstance(self.draft.log[0][1], Patch)
        self.assertIs(self.draft.undo(), True)
        self.assertEqual(self.draft.book, self.book)
        self.assertIs(self.draft.redo(), True)
        self.assertEqual(text_of(self.draft), "bca")

    def test_an_edit_that_changes_nothing_is_a_step(self):
        for edit in (Patch(5), Move(5, 1, 2, 1), Move(5, 2, 2, 4), restyle(PARA, 1, 4, code=False)):
            self.draft.do("a", edit)
        self.assertEqual(self.stage(), (4, 0, 4))
        self.assertEqual([bool(patch) for _, patch in self.draft.log], [False] * 4)
        self.assertIs(self.draft.undo(), True)
        self.assertEqual(self.stage(), (3, 1, 3))
        self.assertEqual(self.draft.book, self.book)

    def test_undo_and_redo(self):
        edits = [put(1, "x"), put(2, "y", 6), Move(7, 1, 3, 6), delete(line("abcxy"), 2, 2), restyle(line("axy"), 1, 3, code=True)]
        books = [self.draft.book]
        for edit in edits:
            self.draft.do("a", edit)
            books.append(self.draft.book)
        log = self.draft.log
        self.assertEqual([text_of(Draft(book)) for book in books], ["abc", "xabc", "xyabc", "abcxy", "axy", "axy"])
        for number in range(4, -1, -1):
            self.assertIs(self.draft.undo(), True)
            self.assertEqual(self.draft.book, books[number])
            self.assertEqual(self.stage(), (number, 5 - number, number))
            self.assertEqual(self.draft.log, log[:number])
        self.assertIs(self.draft.undo(), False)
        self.assertEqual(self.stage(), (0, 5, 0))
        for number in range(1, 6):
            self.assertIs(self.draft.redo(), True)
            self.assertEqual(self.draft.book, books[number])
            self.assertEqual(self.stage(), (number, 5 - number, number))
            self.assertEqual(self.draft.log, log[:number])
        self.assertIs(self.draft.redo(), False)
        self.assertEqual(self.draft.book, books[5])

    def test_a_new_edit_ends_what_could_be_repeated(self):
        for _ in range(3):
            self.draft.do("a", Patch(5))
        self.draft.undo()
        self.draft.undo()
        self.assertEqual(self.stage(), (1, 2, 1))
        self.draft.do("b", Patch(5))
        self.assertEqual(self.stage(), (2, 0, 2))
        self.assertIs(self.draft.redo(), False)
        self.assertEqual([key for key, _ in self.draft.log], ["a", "b"])

    def test_errors(self):
        for edit in (put(1), Move(5, 1, 2, 3), Patch(4)):
            for key in NO_KEYS:
                self.assertError(NoItem, {"key": key}, self.draft.do, key, edit)
            self.assertError(NoChapter, {"key": "f"}, self.draft.do, "f", edit)
        self.draft.do("a", Patch(5))
        self.draft.undo()
        self.draft.keep("m", "a", 2)
        for edit, error, fields in (
            (Patch(4), Misfit, {"index": None}),
            (Move(6, 1, 2, 3), Misfit, {"index": None}),
            (Patch(5, (), ((0, "code", True),)), Misfit, {"index": 0}),
            (put(0), BadChapter, {"index": 0}),
            (Patch(5, ((0, 1, ()),)), BadChapter, {"index": 0}),
            (Move(5, 1, 2, 0), BadChapter, {"index": 0}),
            (put(1, "a" * 1996), BadChapter, {"index": 1999}),
        ):
            self.assertError(error, fields, self.draft.do, "a", edit)
            self.assertEqual(self.stage(), (0, 1, 0))
            self.assertEqual(self.draft.book, self.book)
            self.assertEqual(self.draft.where("m"), ("a", 2))
        self.assertIs(self.draft.redo(), True)

    def test_ids_told_twice(self):
        book = Book(items=(("a", "chapter", PARA, None), ("a", "chapter", (), None)))
        draft = Draft(book)
        draft.do("a", put(1))
        self.assertEqual(draft.book.plain[1], (("a", "chapter", line("xabc"), None), ("a", "chapter", (), None)))
        draft.undo()
        self.assertEqual(draft.book, book)

    def test_properties_are_read_only(self):
        for name in ("book", "steps", "later", "log"):
            with self.assertRaises(AttributeError):
                setattr(self.draft, name, None)


class Marks(Case):
    def setUp(self):
        self.draft = Draft(book_of({"a": PARA, "b": PARA}, f=("figure", "", None)))

    def both(self, gap):
        self.assertIsNone(self.draft.keep("m", "a", gap))
        self.assertIsNone(self.draft.keep("n", "a", gap, after=True))

    def gaps(self):
        return self.draft.where("m")[1], self.draft.where("n")[1]

    def test_keep_and_where(self):
        self.both(2)
        self.assertEqual(self.draft.where("m"), ("a", 2))
        self.assertEqual(self.draft.where(name="n"), ("a", 2))
        self.draft.keep(name="m", key="b", gap=5, after=False)
        self.assertEqual(self.draft.where("m"), ("b", 5))
        self.assertEqual(self.draft.where("n"), ("a", 2))

    def test_after_only_if_true_itself(self):
        for after in (1, "yes", [1], 0, None, False):
            self.draft.keep("m", "a", 2, after)
            self.draft.do("a", put(2))
            self.assertEqual(self.draft.where("m"), ("a", 2))
            self.draft.undo()

    def test_in_place_of_an_earlier_mark(self):
        self.both(2)
        self.draft.keep("n", "a", 2)
        self.draft.do("a", put(2))
        self.assertEqual(self.gaps(), (2, 2))
        self.draft.keep("m", "a", 2, True)
        self.draft.undo()
        self.draft.redo()
        self.assertEqual(self.gaps(), (3, 2))

    def test_puts(self):
        self.both(2)
        self.draft.do("a", put(2, "xy"))
        self.assertEqual(self.gaps(), (2, 4))
        self.draft.undo()
        self.assertEqual(self.gaps(), (2, 2))
        self.draft.redo()
        self.assertEqual(self.gaps(), (2, 4))
        self.draft.do("a", put(1, "z", 7))
        self.assertEqual(self.gaps(), (3, 5))
        self.draft.do("b", put(1, "zz"))
        self.assertEqual(self.gaps(), (3, 5))

    def test_inside_of_what_is_deleted(self):
        self.both(2)
        self.draft.do("a", delete(PARA, 1, 3))
        self.assertEqual(self.gaps(), (1, 1))
        self.draft.undo()
        self.assertEqual(self.gaps(), (1, 4))
        self.draft.redo()
        self.assertEqual(self.gaps(), (1, 1))

    def test_at_the_ends_of_what_is_deleted(self):
        self.draft.keep("m", "a", 1)
        self.draft.keep("n", "a", 4, after=True)
        self.draft.keep("o", "a", 4)
        self.draft.keep("p", "a", 1, after=True)
        self.draft.do("a", delete(PARA, 1, 3))
        self.assertEqual([self.draft.where(name) for name in "mnop"], [("a", 1)] * 4)
        self.draft.undo()
        self.assertEqual([self.draft.where(name)[1] for name in "mnop"], [1, 4, 1, 4])

    def test_directly_before_a_token(self):
        self.draft.keep("m", "a", 3, after=True)
        for edit in (put(3, "xy"), put(5, "z", 7), Move(8, 6, 7, 1), Move(8, 4, 7, 1), delete(line("yxzcab"), 1, 2)):
            before = self.draft.book
            try:
                self.draft.do("a", edit)
            except BookError as error:
                self.fail((error, vars(error), before))
            chapter = self.draft.book.chapter("a")
            self.assertEqual(chapter[self.draft.where("m")[1]], ch("c"))

    def test_moves(self):
        self.both(2)
        self.draft.do("a", Move(5, 2, 3, 1))
        self.assertEqual(text_of(self.draft), "bac")
        self.assertEqual(self.gaps(), (3, 1))
        self.draft.undo()
        self.assertEqual(self.gaps(), (2, 2))
        self.draft.redo()
        self.assertEqual(self.gaps(), (3, 1))

    def test_together_each_edit_carries(self):
        self.both(2)

        def work(draft):
            draft.do("a", put(2, "xy"))
            self.assertEqual(self.gaps(), (2, 4))
            draft.do("a", delete(line("axybc"), 1, 4))
            self.assertEqual(self.gaps(), (1, 1))
        self.draft.together(work)
        self.assertEqual(self.gaps(), (1, 1))
        self.draft.undo()
        # Back over what was deleted, then over what was put: each by itself.
        self.assertEqual(self.gaps(), (1, 3))
        self.draft.redo()
        self.assertEqual(self.gaps(), (1, 1))

    def test_forget(self):
        self.both(2)
        self.assertIsNone(self.draft.forget("m"))
        self.assertError(NoMark, {"name": "m"}, self.draft.where, "m")
        self.assertError(NoMark, {"name": "m"}, self.draft.forget, "m")
        self.assertEqual(self.draft.where("n"), ("a", 2))
        self.draft.forget(name="n")
        self.draft.do("a", put(1))
        self.assertError(NoMark, {"name": "n"}, self.draft.where, "n")

    def test_marks_that_are_none(self):
        self.both(2)
        for name in ("o", "", None, 1, ["m"], {"m": 1}, ("m",), b"m", object()):
            self.assertError(NoMark, {"name": name}, self.draft.where, name)
            self.assertError(NoMark, {"name": name}, self.draft.forget, name)

    def test_keep_refuses(self):
        self.draft.keep("m", "a", 2)
        for name in ("", "M", "1m", "m" * 17, None, 1, ["m"], b"m", "m n"):
            self.assertError(BadNumber, {"name": "name"}, self.draft.keep, name, "z", -1)
        for key in NO_KEYS:
            self.assertError(NoItem, {"key": key}, self.draft.keep, "m", key, -1)
        self.assertError(NoChapter, {"key": "f"}, self.draft.keep, "m", "f", -1)
        for gap in (-1, 6, None, True, "1", 1.0):
            self.assertError(BadNumber, {"name": "gap"}, self.draft.keep, "m", "a", gap)
        self.assertEqual(self.draft.where("m"), ("a", 2))
        self.draft.keep("m" * 16, "a", 5)
        self.assertEqual(self.draft.where("m" * 16), ("a", 5))

    def test_marks_alone_are_no_steps(self):
        self.draft.do("a", Patch(5))
        self.draft.undo()
        self.draft.keep("m", "a", 2)
        self.draft.forget("m")
        self.assertEqual((self.draft.steps, self.draft.later), (0, 1))


class Together(Case):
    def setUp(self):
        self.book = book_of({"a": PARA, "b": PARA})
        self.draft = Draft(self.book)

    def state(self):
        marks = []
        for name in "mno":
            try:
                marks.append(self.draft.where(name))
            except NoMark:
                marks.append(None)
        return self.draft.book, self.draft.steps, self.draft.later, self.draft.log, marks

    def test_no_edit(self):
        self.draft.do("a", put(1))
        self.draft.undo()
        before = self.state()
        self.assertEqual(self.draft.together(lambda draft: 7), 7)
        self.assertIsNone(self.draft.together(function=lambda draft: None))
        self.assertIs(self.draft.together(lambda draft: draft), self.draft)
        self.assertEqual(self.state(), before)
        self.assertIs(self.draft.redo(), True)

    def test_some_edits_become_one_step(self):
        self.draft.do("b", Patch(5))

        def work(draft):
            draft.do("a", put(1, "x"))
            draft.do("b", put(1, "y"))
            draft.do("a", Move(6, 1, 2, 5))
            return "done"
        self.assertEqual(self.draft.together(work), "done")
        self.assertEqual((self.draft.steps, self.draft.later), (2, 0))
        self.assertEqual([key for key, _ in self.draft.log], ["b", "a", "b", "a"])
        after = self.state()
        self.assertEqual((text_of(self.draft), text_of(self.draft, "b")), ("abcx", "yabc"))
        self.assertIs(self.draft.undo(), True)
        self.assertEqual(self.draft.book, self.book)
        self.assertEqual((self.draft.steps, self.draft.later), (1, 1))
        self.assertEqual([key for key, _ in self.draft.log], ["b"])
        self.assertIs(self.draft.redo(), True)
        self.assertEqual(self.state(), after)

    def test_what_it_tells_within(self):
        self.draft.do("a", Patch(5))
        self.draft.do("a", Patch(5))
        self.draft.undo()
        seen = []

        def work(draft):
            for edit in (None, put(1), Patch(6)):
                if edit is not None:
                    draft.do("a", edit)
                seen.append((draft.steps, draft.later, len(draft.log)))
        self.draft.together(work)
        self.assertEqual(seen, [(1, 1, 1), (2, 0, 2), (2, 0, 3)])
        self.assertEqual((self.draft.steps, self.draft.later, len(self.draft.log)), (2, 0, 3))

    def test_an_edit_that_changes_nothing_is_a_step_here_too(self):
        self.draft.together(lambda draft: draft.do("a", Patch(5)))
        self.assertEqual(self.draft.steps, 1)

    def test_one_inside_of_another(self):
        def inner(draft):
            draft.do("a", put(1, "y"))
            draft.do("a", put(1, "z", 6))
            return draft.steps

        def outer(draft):
            steps = [draft.steps, draft.together(lambda each: None), draft.together(inner), draft.steps]
            draft.do("b", put(1, "x"))
            steps.append(draft.together(inner_b))
            return steps, draft.steps, len(draft.log)

        def inner_b(draft):
            draft.do("b", put(1, "w", 6))
            return draft.steps
        self.assertEqual(self.draft.together(outer), ([0, None, 1, 1, 1], 1, 4))
        self.assertEqual(self.draft.steps, 1)
        self.assertIs(self.draft.undo(), True)
        self.assertEqual(self.draft.book, self.book)
        self.assertIs(self.draft.undo(), False)

    def test_an_exception_passes(self):
        self.draft.do("a", put(1))
        self.draft.do("a", put(1, "q", 6))
        self.draft.undo()
        self.draft.keep("m", "a", 3)
        self.draft.keep("n", "a", 3, after=True)
        before = self.state()
        for error in (Stop(), ValueError(), KeyboardInterrupt(), StopIteration()):
            def work(draft):
                draft.do("a", put(3, "yy", 6))
                draft.keep("o", "b", 1)
                draft.keep("m", "b", 1)
                draft.forget("n")
                draft.do("b", put(1))
                raise error
            with self.assertRaises(type(error)) as caught:
                self.draft.together(work)
            self.assertIs(caught.exception, error)
            self.assertEqual(self.state(), before)
        # The marks are carried on as they were kept.
        self.draft.do("a", put(3, "yy", 6))
        self.assertEqual(self.state()[4], [("a", 3), ("a", 5), None])
        self.draft.undo()
        self.draft.undo()
        self.assertEqual(self.draft.book, self.book)

    def test_errors_of_edits_pass_too(self):
        def work(draft):
            draft.do("a", put(1))
            draft.do("a", put(1))
        before = self.state()
        self.assertError(Misfit, {"index": None}, self.draft.together, work)
        self.assertEqual(self.state(), before)

    def test_an_exception_of_an_inner_one(self):
        def inner(draft):
            draft.do("a", put(1, "y", 6))
            draft.keep("m", "a", 1)
            raise Stop()

        def outer(draft):
            draft.do("a", put(1, "x"))
            before = self.state()
            with self.assertRaises(Stop):
                draft.together(inner)
            self.assertEqual(self.state(), before)
            draft.do("b", put(1, "z"))
        self.draft.together(outer)
        self.assertEqual((text_of(self.draft), text_of(self.draft, "b"), self.draft.steps), ("xabc", "zabc", 1))
        self.draft.undo()
        self.assertEqual(self.draft.book, self.book)

    def test_an_exception_of_an_inner_one_before_any_edit(self):
        self.draft.do("a", Patch(5))
        self.draft.undo()

        def outer(draft):
            with self.assertRaises(Stop):
                draft.together(raising)
            return draft.steps, draft.later

        def raising(draft):
            draft.do("a", put(1))
            raise Stop()
        self.assertEqual(self.draft.together(outer), (0, 1))
        self.assertEqual((self.draft.steps, self.draft.later), (0, 1))

    def test_busy(self):
        self.draft.do("a", Patch(5))
        self.draft.do("a", Patch(5))
        self.draft.undo()

        def work(draft):
            self.assertError(Busy, {}, draft.undo)
            self.assertError(Busy, {}, draft.redo)
            draft.do("a", put(1))
            self.assertError(Busy, {}, draft.undo)
            draft.together(lambda each: self.assertError(Busy, {}, each.redo))
            self.assertError(Busy, {}, draft.undo)
        self.draft.together(work)
        self.assertEqual(self.draft.steps, 2)
        self.assertIs(self.draft.undo(), True)

    def test_busy_without_steps(self):
        self.draft.together(lambda draft: self.assertError(Busy, {}, draft.undo))
        self.draft.together(lambda draft: self.assertError(Busy, {}, draft.redo))
        self.assertError(Busy, {}, self.draft.together, lambda draft: draft.undo())
        self.assertIs(self.draft.undo(), False)


class Links(Case):
    def setUp(self):
        chapters = {
            "a": node("para", an("x"), ch(".", link="b#x"), ch("."), ch(".", link="b#x"), ch(".", link="out:b#x")),
            "b": node("para", an("x"), ch(".", link="b#x"), ch(".", link="b#y"), ch(".", link="z#x"), ch(".", link="f#x")),
        }
        self.draft = Draft(book_of(chapters, slots=(), f=("figure", "", None)))

    def test_incoming(self):
        self.assertEqual(self.draft.incoming("b", "x"), [("a", 2, 3), ("a", 4, 5), ("b", 2, 3)])
        self.assertEqual(self.draft.incoming(name="y", key="b"), [("b", 3, 4)])
        self.assertEqual(self.draft.incoming("z", "x"), [("b", 4, 5)])
        self.assertEqual(self.draft.incoming("a", "x"), [])
        self.assertEqual(self.draft.incoming("b", "z"), [])

    def test_broken(self):
        self.assertEqual(self.draft.broken(), [("b", 3, 4), ("b", 4, 5), ("b", 5, 6)])
        self.assertEqual(Draft(Book()).broken(), [])

    def test_after_edits(self):
        self.draft.do("b", delete(self.draft.book.chapter("b"), 1, 1))
        self.assertEqual(self.draft.broken(), [("a", 2, 3), ("a", 4, 5), ("b", 1, 2), ("b", 2, 3), ("b", 3, 4), ("b", 4, 5)])
        self.assertEqual(self.draft.incoming("b", "x"), [("a", 2, 3), ("a", 4, 5), ("b", 1, 2)])
        self.draft.do("b", insert(self.draft.book.chapter("b"), 5, (an("y"),)))
        self.assertEqual(self.draft.broken(), [("a", 2, 3), ("a", 4, 5), ("b", 1, 2), ("b", 3, 4), ("b", 4, 5)])
        self.draft.undo()
        self.draft.undo()
        self.assertEqual(self.draft.broken(), [("b", 3, 4), ("b", 4, 5), ("b", 5, 6)])
        self.draft.do("a", restyle(self.draft.book.chapter("a"), 2, 5, link="b#x"))
        self.assertEqual(self.draft.incoming("b", "x"), [("a", 2, 5), ("b", 2, 3)])

    def test_lists_are_new_each_time(self):
        for function in (self.draft.broken, lambda: self.draft.incoming("b", "x")):
            first = function()
            self.assertIsInstance(first, list)
            first.clear()
            self.assertEqual(len(function()), 3)

    def test_ids_told_twice(self):
        one, other = node("para", an("x"), ch(".", link="a#y")), node("para", an("y"), ch(".", link="a#y"))
        draft = Draft(Book(items=(("a", "chapter", one, None), ("a", "chapter", other, None))))
        self.assertEqual(draft.incoming("a", "y"), [("a", 2, 3), ("a", 2, 3)])
        self.assertEqual(draft.broken(), [("a", 2, 3), ("a", 2, 3)])


def random_edit(chance, chapter):
    """A random edit of a chapter, perhaps one that is refused."""
    word = chance.choice(("patch", "move", "insert", "delete", "split"))
    gap = chance.randint(0, len(chapter))
    if word == "patch":
        return random_patch(chance, chapter, rate=0.1)
    if word == "move":
        return moving(chapter, gap, chance.randint(0, 2), chance.randint(0, len(chapter)))
    if word == "insert":
        return insert(chapter, gap, (ch("x"),) * chance.randint(0, 2))
    if word == "delete":
        return delete(chapter, gap, chance.randint(0, 2))
    return split(chapter, gap)


class RandomDrafts(Case):
    def carried(self, edit, marks, key):
        return {name: (at, edit.carry(gap, after) if at == key else gap, after) for name, (at, gap, after) in marks.items()}

    def backward(self, edit, chapter):
        return edit.undo() if isinstance(edit, Move) else edit.undo(chapter)

    def test_against_a_plain_model(self):
        for seed in range(120):
            chance = random.Random(seed)
            book = random_book(chance)
            keys = [key for key, kind, _, _ in book.plain[1] if kind == "chapter"]
            draft = Draft(book)
            marks = {}
            done, later = [], []
            for _ in range(30):
                word = chance.choice(("do", "do", "do", "undo", "redo", "keep"))
                key = chance.choice(keys)
                chapter = draft.book.chapter(key)
                if word == "do":
                    try:
                        edit = random_edit(chance, chapter)
                        draft.do(key, edit)
                    except BookError:
                        continue
                    marks = self.carried(edit, marks, key)
                    done.append((key, edit, chapter))
                    later = []
                    self.assertEqual(draft.book.chapter(key), edit(chapter))
                elif word == "undo" and done:
                    draft.undo()
                    key, edit, chapter = done.pop()
                    later.append((key, edit, chapter))
                    marks = self.carried(self.backward(edit, chapter), marks, key)
                    self.assertEqual(draft.book.chapter(key), chapter)
                elif word == "redo" and later:
                    draft.redo()
                    key, edit, chapter = later.pop()
                    done.append((key, edit, chapter))
                    marks = self.carried(edit, marks, key)
                    self.assertEqual(draft.book.chapter(key), edit(chapter))
                elif word == "keep":
                    mark = (key, chance.randint(0, len(chapter)), chance.choice((True, False)))
                    name = chance.choice("mno")
                    marks[name] = mark
                    draft.keep(name, *mark)
                self.assertEqual((draft.steps, draft.later), (len(done), len(later)))
                self.assertEqual([key for key, _ in draft.log], [key for key, _, _ in done])
                self.assertEqual({name: draft.where(name) for name in marks}, {name: mark[:2] for name, mark in marks.items()})
            for key, edit, chapter in done:
                book = book.with_chapter(key, edit(book.chapter(key)))
            self.assertEqual(draft.book, book)
            again = Draft(draft.book)
            for key, patch in draft.log:
                self.assertIsInstance(patch, Patch)
            while draft.undo():
                pass
            for key, patch in [row for row in self.logged(done)]:
                draft.do(key, patch)
            self.assertEqual(draft.book, again.book)

    def logged(self, done):
        return [(key, edit.patch(chapter) if isinstance(edit, Move) else edit) for key, edit, chapter in done]


if __name__ == "__main__":
    unittest.main()
