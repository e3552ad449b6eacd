"""Splitting and joining chapters, the order of slots, and the names of items ([61] to [63])."""

import random
import unittest

from bookpack.arranging import join_chapters, rename, reorder, split_chapter
from bookpack.books import Book
from bookpack.errors import (
    BadChapter, BadNames, BadNumber, BadOrder, BookError, NoChapter, NoItem, NotInSlots, NotNeighbors, TooMany,
)
from tests.checking import OutcomeCase
from tests.making import FIELDS, an, book_of, ch, im, joined, line, node, random_book

PARA = line("ab")
NO_KEYS = ("z", None, 1, True, ["a"], ("a",), object())


def head(name, kind="head1"):
    return node(kind, an(name), ch("H"))


def ids_of(book):
    return [item[0] for item in book.plain[1]]


class Split(OutcomeCase):
    def parts(self, chapter, **more):
        book = book_of({"a": chapter})
        outcome = self.check(book, split_chapter(book, "a", **more))
        self.assertEqual(book, book_of({"a": chapter}))
        return [item[2] for item in outcome.book.plain[1]]

    def test_cuts(self):
        one, two, three = head("x"), head("y", "head2"), head("z", "head3")
        chapter = joined(PARA, one, PARA, two, PARA, three)
        first, rest = joined(PARA), joined(one, PARA, two, PARA, three)
        self.assertEqual(self.parts(chapter), [first, rest])
        self.assertEqual(self.parts(chapter, level=1), [first, rest])
        self.assertEqual(self.parts(chapter, level=2), [PARA, joined(one, PARA), joined(two, PARA, three)])
        self.assertEqual(self.parts(chapter, level=3), [PARA, joined(one, PARA), joined(two, PARA), three])

    def test_not_at_gap_0(self):
        one, two = head("x"), head("y")
        self.assertEqual(self.parts(one), [one])
        self.assertEqual(self.parts(joined(one, two)), [one, two])
        self.assertEqual(self.parts(joined(one, PARA)), [joined(one, PARA)])
        self.assertEqual(self.parts(joined(node("list"), one)), [node("list"), one])

    def test_no_cuts(self):
        for chapter in ((), PARA, joined(PARA, head("x", "head2")), joined(PARA, node("quote", *head("x"))),
                        joined(PARA, node("section", *head("x"), *PARA)),
                        joined(PARA, node("list", *node("item", *head("x"))))):
            self.assertEqual(self.parts(chapter), [chapter])

    def test_book_of_the_parts(self):
        chapter = joined(node("para", an("p"), ch(".", link="b#q")), head("x"), node("para", ch(".", link="a#p")),
                         head("y"), node("para", ch(".", link="a#y"), ch(".", link="a#x"), im("f")))
        other = node("para", an("q"), ch(".", link="a#x"), ch(".", link="a#p"), ch(".", link="out:a"))
        book = Book(
            fields=FIELDS,
            items=(("b", "chapter", other, None), ("a", "chapter", chapter, None), ("f", "figure", "", "a")),
            slots=(("b", True), ("a", False), ("f", True)),
            contents=((0, "Q", "b#q"), (1, "P", "a#p"), (2, "X", "a#x"), (0, "Y", "a#y")),
        )
        outcome = self.check(book, split_chapter(book, "a"))
        self.check_carry_refuses(book, outcome)
        self.assertEqual(outcome.book.plain, (
            FIELDS,
            (
                ("b", "chapter", node("para", an("q"), ch(".", link="a2#x"), ch(".", link="a#p"), ch(".", link="out:a")), None),
                ("a", "chapter", node("para", an("p"), ch(".", link="b#q")), None),
                ("a2", "chapter", joined(head("x"), node("para", ch(".", link="a#p"))), None),
                ("a3", "chapter", joined(head("y"), node("para", ch(".", link="a3#y"), ch(".", link="a2#x"), im("f"))), None),
                ("f", "figure", "", "a"),
            ),
            (("b", True), ("a", False), ("a2", False), ("a3", False), ("f", True)),
            ((0, "Q", "b#q"), (1, "P", "a#p"), (2, "X", "a2#x"), (0, "Y", "a3#y")),
        ))
        self.assertEqual(outcome.links, [
            ("b", 2, 3, ("b", 2), "kept"), ("b", 3, 4, ("b", 3), "kept"), ("b", 4, 5, ("b", 4), "kept"),
            ("a", 2, 3, ("a", 2), "kept"), ("a", 9, 10, ("a2", 5), "kept"), ("a", 16, 17, ("a3", 5), "kept"),
            ("a", 17, 18, ("a3", 6), "kept"),
        ])

    def test_places_at_the_cuts(self):
        book = book_of({"a": joined(PARA, head("x"), head("y")), "b": PARA})
        outcome = split_chapter(book, "a")
        self.assertEqual(outcome.carry("a", 3), ("a", 3))
        self.assertEqual(outcome.carry("a", 4), ("a", 4))
        self.assertEqual(outcome.carry("a", 4, after=True), ("a2", 0))
        self.assertEqual(outcome.carry("a", 5), ("a2", 1))
        self.assertEqual(outcome.carry("a", 8), ("a2", 4))
        self.assertEqual(outcome.carry("a", 8, True), ("a3", 0))
        self.assertEqual(outcome.carry("a", 12), ("a3", 4))
        self.assertEqual(outcome.carry("a", 12, after=True), ("a3", 4))
        self.assertEqual(outcome.carry("a", 0, after=True), ("a", 0))
        self.assertEqual(outcome.carry("b", 4), ("b", 4))

    def test_fresh_ids(self):
        chapter = joined(PARA, head("x"), head("y"))
        for key, others, wanted in (
            ("a", (), ("a2", "a3")),
            ("a", ("a2",), ("a3", "a4")),
            ("a", ("a3",), ("a2", "a4")),
            ("a", ("a2", "a3", "a5"), ("a4", "a6")),
            ("a2", ("a",), ("a22", "a23")),
            ("abcdefghijkl", (), ("abcdefghijkl2", "abcdefghijkl3")),
            ("abcdefghijklm", ("abcdefghijklm2",), ("abcdefghijkl2", "abcdefghijkl3")),
            ("abcdefghijklmnop", ("abcdefghijkl2",), ("abcdefghijkl3", "abcdefghijkl4")),
            ("abcdefghijk", ("abcdefghijkl2",), ("abcdefghijk2", "abcdefghijk3")),
            ("abcdefghijkl2", (), ("abcdefghijkl3", "abcdefghijkl4")),
        ):
            book = book_of({key: chapter}, **{each: ("figure", "", None) for each in others})
            outcome = self.check(book, split_chapter(book, key))
            self.assertEqual(ids_of(outcome.book), [key, *wanted, *others])

    def test_numbers_of_two_digits(self):
        chapter = joined(*[head("n" + str(number)) for number in range(12)])
        outcome = split_chapter(book_of({"abcdefghijklmnop": chapter}), "abcdefghijklmnop")
        self.assertEqual(ids_of(outcome.book)[-3:], ["abcdefghijkl" + str(number) for number in (10, 11, 12)])

    def test_forty_items(self):
        def book(others, heads):
            chapter = joined(PARA, *[head("n" + str(number)) for number in range(heads)])
            return book_of({"a": chapter}, **{"f" + str(number): ("figure", "", None) for number in range(others)})
        self.assertEqual(len(self.check(book(38, 1), split_chapter(book(38, 1), "a")).book), 40)
        self.assertEqual(len(split_chapter(book(0, 39), "a").book), 40)
        self.assertEqual(len(split_chapter(book(39, 0), "a").book), 40)
        self.assertError(TooMany, {"part": "items"}, split_chapter, book(39, 1), "a")
        self.assertError(TooMany, {"part": "items"}, split_chapter, book(38, 2), "a")
        self.assertError(TooMany, {"part": "items"}, split_chapter, book(0, 40), "a", level=1)
        self.assertEqual(len(split_chapter(book(0, 0), key="a", level=3).book), 1)

    def test_errors_in_their_order(self):
        full = {"f" + str(number): ("figure", "", None) for number in range(38)}
        book = book_of({"a": joined(PARA, head("x")), "b": joined(PARA, head("x"))}, slots=(("a", True),), **full)
        self.check_unsound_first(split_chapter, "z", level=0)
        for level in (0, 4, -1, None, True, "1", 1.0):
            self.assertError(BadNumber, {"name": "level"}, split_chapter, book, "z", level=level)
        for key in NO_KEYS:
            self.assertError(NoItem, {"key": key}, split_chapter, book, key)
        self.assertError(NoChapter, {"key": "f1"}, split_chapter, book, "f1")
        self.assertError(NotInSlots, {"key": "b"}, split_chapter, book, "b")
        self.assertError(TooMany, {"part": "items"}, split_chapter, book, "a")
        with self.assertRaises(TypeError):
            split_chapter(book, "a", 1)


class Join(OutcomeCase):
    def book(self, one, other, mains=(True, True), **others):
        return book_of({"a": one, "b": other}, slots=(("a", mains[0]), ("b", mains[1])), **others)

    def names(self, one, other, wanted):
        """Join two chapters of just these anchors, and compare those of the second one."""
        book = self.book(node("para", *map(an, one)), node("para", *map(an, other)))
        outcome = self.check(book, join_chapters(book, "a", "b"))
        self.assertEqual(outcome.book.chapter("a"), joined(node("para", *map(an, one)), node("para", *map(an, wanted))))

    def test_joined_book(self):
        one = node("para", an("x"), ch(".", link="b#x"), ch(".", link="a#x"), ch(".", link="out:b"))
        other = node("head1", an("y"), an("x"), ch(".", link="b#y"), ch(".", link="b#x"), ch(".", link="a#x"))
        third = node("para", ch(".", link="b#x"), ch(".", link="b#y"), an("x"))
        book = Book(
            fields=FIELDS,
            items=(("b", "chapter", other, None), ("f", "figure", "", "b"), ("a", "chapter", one, None),
                   ("c", "chapter", third, None), ("g", "figure", "", "a")),
            slots=(("c", True), ("a", False), ("b", False), ("f", True)),
            contents=((0, "A", "a#x"), (1, "Y", "b#y"), (2, "X", "b#x")),
        )
        outcome = self.check(book, join_chapters(book, "a", "b"))
        self.check_carry_refuses(book, outcome)
        made = joined(
            node("para", an("x"), ch(".", link="a#x2"), ch(".", link="a#x"), ch(".", link="out:b")),
            node("head1", an("y"), an("x2"), ch(".", link="a#y"), ch(".", link="a#x2"), ch(".", link="a#x")),
        )
        self.assertEqual(outcome.book.plain, (
            FIELDS,
            (("f", "figure", "", "a"), ("a", "chapter", made, None),
             ("c", "chapter", node("para", ch(".", link="a#x2"), ch(".", link="a#y"), an("x")), None),
             ("g", "figure", "", "a")),
            (("c", True), ("a", False), ("f", True)),
            ((0, "A", "a#x"), (1, "Y", "a#y"), (2, "X", "a#x2")),
        ))
        self.assertEqual(outcome.carry("b", 0), ("a", 6))
        self.assertEqual(outcome.carry("b", 7, after=True), ("a", 13))
        self.assertEqual(outcome.carry("a", 6, after=True), ("a", 6))
        self.assertEqual(outcome.links[0], ("b", 3, 4, ("a", 9), "kept"))

    def test_fresh_names(self):
        self.names(["x"], ["y"], ["y"])
        self.names(["x"], ["x"], ["x2"])
        self.names(["x", "x2"], ["x"], ["x3"])
        self.names(["x"], ["x", "x2"], ["x3", "x2"])
        self.names(["x"], ["x2", "x"], ["x2", "x3"])
        self.names(["x", "x3"], ["x", "x2"], ["x4", "x2"])
        self.names(["x", "x2"], ["x", "x2"], ["x3", "x22"])
        self.names(["x", "x2"], ["x2", "x"], ["x22", "x3"])
        long = "abcdefghijkl"
        self.names([long], [long], [long + "2"])
        self.names([long + "m"], [long + "m"], [long + "2"])
        self.names([long + "m", long + "mnop"], [long + "mnop", long + "m"], [long + "2", long + "3"])
        self.names([long + "mnop", long + "2"], [long + "mnop", long + "3"], [long + "4", long + "3"])
        self.names(["abcdefghijk"], ["abcdefghijk"], ["abcdefghijk2"])
        self.names([], ["x"], ["x"])

    def test_many_fresh_names(self):
        stem = "abcdefghijkl"
        names = [stem + a + b for a in "abcdefghij" for b in "abcdefghij"]
        self.names(names, names, [stem + str(number) for number in range(2, 102)])

    def test_empty_chapters(self):
        book = self.book((), ())
        outcome = self.check(book, join_chapters(second="b", first="a", book=book))
        self.assertEqual(outcome.book, book_of({"a": ()}))
        self.assertEqual(outcome.carry("b", 0), ("a", 0))

    def test_mains(self):
        book = self.book(PARA, PARA, (False, False), f=("figure", "", "b"))
        book = Book(fields=FIELDS, items=book.plain[1], slots=(("f", True), ("a", False), ("b", False)))
        self.assertEqual(self.check(book, join_chapters(book, "a", "b")).book.plain[2], (("f", True), ("a", False)))
        for mains in ((True, False), (False, True)):
            self.assertError(NotNeighbors, {}, join_chapters, self.book(PARA, PARA, mains), "a", "b")

    def test_not_neighbors(self):
        book = book_of({"a": PARA, "b": PARA, "c": PARA})
        for first, second in (("b", "a"), ("a", "c"), ("a", "a"), ("c", "a"), ("c", "b")):
            self.assertError(NotNeighbors, {}, join_chapters, book, first, second)
        self.assertEqual(join_chapters(book, "b", "c").book, book_of({"a": PARA, "b": PARA * 2}))

    def test_too_long(self):
        book = self.book(line("a" * 998), line("a" * 998))
        self.assertEqual(len(join_chapters(book, "a", "b").book.chapter("a")), 2000)
        book = self.book(line("a" * 999), line("a" * 998))
        self.assertError(BadChapter, {"index": 1999}, join_chapters, book, "a", "b")
        book = self.book(line("a" * 1998), line("a"))
        self.assertError(BadChapter, {"index": 2000}, join_chapters, book, "a", "b")
        book = self.book(line("a" * 1997), node("quote"))
        self.assertError(BadChapter, {"index": 1999}, join_chapters, book, "a", "b")

    def test_errors_in_their_order(self):
        book = book_of({"a": line("a" * 1500), "b": line("a" * 1500), "c": PARA}, slots=(("b", True), ("a", True)),
                       f=("figure", "", None))
        self.check_unsound_first(join_chapters, "z", "z")
        for key in NO_KEYS:
            self.assertError(NoItem, {"key": key}, join_chapters, book, key, None)
            self.assertError(NoItem, {"key": key}, join_chapters, book, "a", key)
        self.assertError(NoChapter, {"key": "f"}, join_chapters, book, "f", "z")
        self.assertError(NotInSlots, {"key": "c"}, join_chapters, book, "c", "z")
        self.assertError(NoChapter, {"key": "f"}, join_chapters, book, "a", "f")
        self.assertError(NotInSlots, {"key": "c"}, join_chapters, book, "a", "c")
        self.assertError(NotNeighbors, {}, join_chapters, book, "a", "b")
        self.assertError(BadChapter, {"index": 1999}, join_chapters, book, "b", "a")


class Reorder(OutcomeCase):
    def setUp(self):
        self.chapters = {key: joined(head("x"), node("para", ch(".", link=link), an("y")))
                         for key, link in (("a", "b#y"), ("b", "c#x"), ("c", "out:x"))}
        self.contents = ((0, "A1", "a#x"), (1, "A2", "a#y"), (2, "A3", "a#y"), (1, "B", "b#y"), (2, "C", "c#x"))
        self.book = book_of(self.chapters, slots=(("a", True), ("b", False), ("c", True)), contents=self.contents,
                            f=("figure", "", None))

    def test_another_order(self):
        outcome = self.check(self.book, reorder(self.book, ("c", "a", "b")))
        self.check_carry_refuses(self.book, outcome)
        fields, items, _, _ = self.book.plain
        self.assertEqual(outcome.book.plain, (
            fields, items, (("c", True), ("a", True), ("b", False)),
            ((0, "C", "c#x"), (0, "A1", "a#x"), (1, "A2", "a#y"), (2, "A3", "a#y"), (1, "B", "b#y")),
        ))
        self.assertEqual(outcome.carry("a", 3), ("a", 3))

    def test_depths_are_lowered_one_after_the_other(self):
        outcome = self.check(self.book, reorder(ids=("c", "b", "a"), book=self.book))
        self.assertEqual(outcome.book.plain[3],
                         ((0, "C", "c#x"), (1, "B", "b#y"), (0, "A1", "a#x"), (1, "A2", "a#y"), (2, "A3", "a#y")))
        contents = tuple((depth, "E", link) for depth, link in enumerate(("a#x", "a#y", "b#x", "b#y", "c#x", "c#y")))
        book = book_of(self.chapters, contents=contents)
        outcome = self.check(book, reorder(book, ("c", "b", "a")))
        self.assertEqual([row[0] for row in outcome.book.plain[3]], [0, 1, 2, 3, 0, 1])

    def test_the_present_order(self):
        self.assertEqual(self.check(self.book, reorder(self.book, ("a", "b", "c"))).book, self.book)

    def test_there_and_back(self):
        contents = tuple((0, "E" + str(at), link) for at, link in enumerate(("a#x", "a#x", "a#y", "b#x", "c#y", "c#y")))
        book = book_of(self.chapters, contents=contents)
        for ids in (("a", "c", "b"), ("b", "a", "c"), ("b", "c", "a"), ("c", "a", "b"), ("c", "b", "a")):
            made = self.check(book, reorder(book, ids)).book
            self.assertEqual([slot[0] for slot in made.plain[2]], list(ids))
            self.assertEqual(reorder(made, ("a", "b", "c")).book, book)

    def test_bad_orders(self):
        self.check_unsound_first(reorder, None)
        for ids in (None, ["a", "b", "c"], "abc", {}, 3, ("a", "b"), ("a", "b", "c", "a"), (), ("z", "z")):
            self.assertError(BadOrder, {"number": None}, reorder, self.book, ids)
        for number, ids in (
            (0, ("z", "a", "b")), (1, ("a", "a", "b")), (2, ("a", "b", "a")), (2, ("a", "b", "f")), (0, (None, "z", 1)),
            (1, ("c", ["a"], "b")), (2, ("c", "b", ("a",))), (0, (1, 2, 3)), (1, ("c", "z", "c")), (1, ("c", b"a", "b")),
        ):
            self.assertError(BadOrder, {"number": number}, reorder, self.book, ids)


class Rename(OutcomeCase):
    def setUp(self):
        chapters = {"a": node("para", an("x"), ch(".", link="b#x"), im("f"), ch(".", link="out:a")),
                    "b": node("para", an("x"), ch(".", link="a#x"), ch(".", link="b#x"), im("g"))}
        self.book = book_of(chapters, slots=(("f", True), ("b", False), ("a", True)),
                            contents=((0, "B", "b#x"), (0, "A", "a#x")), f=("figure", "a", "g"), g=("figure", "f", "b"))

    def test_new_ids(self):
        outcome = self.check(self.book, rename(self.book, (("a", "z"), ("f", "h2"))))
        self.assertEqual(outcome.book.plain, (
            FIELDS,
            (("z", "chapter", node("para", an("x"), ch(".", link="b#x"), im("h2"), ch(".", link="out:a")), None),
             ("b", "chapter", node("para", an("x"), ch(".", link="z#x"), ch(".", link="b#x"), im("g")), None),
             ("h2", "figure", "a", "g"), ("g", "figure", "f", "b")),
            (("h2", True), ("b", False), ("z", True)),
            ((0, "B", "b#x"), (0, "A", "z#x")),
        ))
        self.check_carry_refuses(self.book, outcome)
        self.assertEqual(outcome.carry("a", 2, after=True), ("z", 2))
        self.assertEqual(outcome.carry("b", 2), ("b", 2))
        self.assertError(NoItem, {"key": "z"}, outcome.carry, "z", 0)
        self.assertEqual(outcome.links[0], ("a", 2, 3, ("z", 2), "kept"))

    def test_exchanged_ids(self):
        outcome = self.check(self.book, rename(names=(("a", "b"), ("b", "a")), book=self.book))
        self.assertEqual(outcome.book["b"][2], node("para", an("x"), ch(".", link="a#x"), im("f"), ch(".", link="out:a")))
        self.assertEqual(outcome.book["a"][2], node("para", an("x"), ch(".", link="b#x"), ch(".", link="a#x"), im("g")))
        self.assertEqual(outcome.book["g"], ("g", "figure", "f", "a"))
        self.assertEqual(outcome.carry("a", 1), ("b", 1))
        outcome = self.check(self.book, rename(self.book, (("a", "f"), ("f", "b"), ("b", "a"))))
        self.assertEqual(ids_of(outcome.book), ["f", "a", "b", "g"])

    def test_nothing_renamed(self):
        for names in ((), (("a", "a"),), (("f", "f"), ("a", "a"), ("b", "b"), ("g", "g"))):
            self.assertEqual(self.check(self.book, rename(self.book, names)).book, self.book)

    def test_there_and_back(self):
        for names in ((("a", "z"),), (("a", "b"), ("b", "a")), (("a", "f"), ("f", "b"), ("b", "q"), ("g", "a"))):
            made = self.check(self.book, rename(self.book, names)).book
            self.assertEqual(rename(made, tuple((new, old) for old, new in names)).book, self.book)

    def test_bad_names(self):
        self.check_unsound_first(rename, None)
        for names in (None, [("a", "z")], {"a": "z"}, "az", 1):
            self.assertError(BadNames, {"number": None}, rename, self.book, names)
        for bad in (None, 1, "az", ["a", "z"], ("a",), ("a", "z", "y"), (), ("z", "a"), ("z", "y"), ("a", "Z"), ("a", ""),
                    ("a", "z" * 17), ("a", None), (None, "a"), (["a"], "z"), ("a", ["z"]), (1, "z"), ("a", 1), ("a", b"z"),
                    ("f", "y"), ("g", "x")):
            self.assertError(BadNames, {"number": 1}, rename, self.book, (("f", "x"), bad, ("b", "y")))
        self.assertError(BadNames, {"number": 1}, rename, self.book, (("a", "a"), ("a", "a")))
        self.assertError(BadNames, {"number": 1}, rename, self.book, (("a", "z"), ("b", "z")))

    def test_ids_that_are_taken(self):
        self.assertError(BadNames, {"number": None}, rename, self.book, (("a", "b"),))
        self.assertError(BadNames, {"number": None}, rename, self.book, (("a", "b"), ("b", "f")))
        self.assertError(BadNames, {"number": None}, rename, self.book, (("a", "z"), ("f", "b")))
        # The elements are looked at first.
        self.assertError(BadNames, {"number": 1}, rename, self.book, (("a", "b"), ("z", "y")))
        self.check(self.book, rename(self.book, (("a", "b"), ("b", "z"))))


class RandomBooks(OutcomeCase):
    def outcomes(self, function, choose, count=250):
        """The outcomes for random books, checked; choose gives the arguments for a book."""
        for seed in range(count):
            chance = random.Random(seed)
            book = random_book(chance)
            args, more = choose(chance, book)
            before = book.plain
            try:
                outcome = function(book, *args, **more)
            except BookError:
                continue
            self.assertEqual(book.plain, before)
            yield book, args, self.check(book, outcome)

    def test_split_and_join(self):
        def choose(chance, book):
            return (chance.choice(ids_of(book)),), {"level": chance.randint(1, 3)}
        many = 0
        for book, (key,), outcome in self.outcomes(split_chapter, choose):
            parts = [each for each in ids_of(outcome.book) if each not in ids_of(book)]
            many += len(parts)
            made = outcome.book
            for part in parts:
                made = self.check(made, join_chapters(made, key, part)).book
            self.assertEqual(made, book)
        self.assertGreater(many, 50)

    def test_join(self):
        def choose(chance, book):
            keys = [slot[0] for slot in book.plain[2]]
            at = chance.randrange(len(keys))
            return (keys[at - 1], keys[at]), {}
        self.assertGreater(len(list(self.outcomes(join_chapters, choose, 400))), 30)

    def test_reorder(self):
        def choose(chance, book):
            keys = [slot[0] for slot in book.plain[2]]
            return (tuple(chance.sample(keys, len(keys))),), {}
        for book, (ids,), outcome in self.outcomes(reorder, choose):
            old = tuple(slot[0] for slot in book.plain[2])
            again = reorder(outcome.book, old).book
            self.assertEqual(again.plain[:3], book.plain[:3])
            self.assertEqual([row[1:] for row in again.plain[3]], [row[1:] for row in book.plain[3]])
            for row, kept in zip(again.plain[3], book.plain[3]):
                self.assertLessEqual(row[0], kept[0])
            self.assertEqual(reorder(book, old).book, book)

    def test_rename(self):
        def choose(chance, book):
            old = chance.sample(ids_of(book), chance.randint(0, len(book)))
            new = chance.sample(old, len(old))
            new = [chance.choice((key, "new" + str(at))) for at, key in enumerate(new)]
            return (tuple(zip(old, new)),), {}
        count = 0
        for book, (names,), outcome in self.outcomes(rename, choose):
            count += 1
            self.assertEqual(rename(outcome.book, tuple((new, old) for old, new in names)).book, book)
        self.assertGreater(count, 100)


if __name__ == "__main__":
    unittest.main()
