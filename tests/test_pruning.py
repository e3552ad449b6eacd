"""Pruning: items that are taken out, and slots that are kept alone ([64], [65])."""

import random
import unittest

from bookpack.books import Book, chain
from bookpack.errors import BadOrder, BookError, NoMain
from bookpack.pruning import extract, without
from tests.checking import BLANK, OutcomeCase
from tests.making import FIELDS, an, book_of, ch, im, joined, line, node, random_book

PARA = line("ab")
BAD_IDS = (None, ["a"], {"a": 1}, "a", 1, True, object())


def figures(*pairs):
    return {key: ("figure", "text", fallback) for key, fallback in pairs}


def slots_of(book):
    return [slot[0] for slot in book.plain[2]]


def fallbacks_of(book):
    return {item[0]: item[3] for item in book.plain[1]}


def wanted_slots(book, gone, slots):
    """The slots that are left, straight from the words of the document."""
    staying = {item[0]: item for item in book.plain[1] if item[0] not in gone}
    left = []
    for key, main in slots:
        ids = [each for each in chain(book, key) if each in staying]
        if not ids or not [each for each in ids if staying[each][1] == "chapter"]:
            continue
        if ids[0] != key and ids[0] in slots_of(book):
            continue
        if ids[0] not in [each for each, _ in left]:
            left.append((ids[0], main))
    return tuple(left)


class Without(OutcomeCase):
    def left(self, book, *ids):
        before = book.plain
        outcome = self.check(book, without(book, ids), ids)
        self.assertEqual(book.plain, before)
        return outcome

    def test_nothing_taken_out(self):
        book = book_of({"a": node("para", an("x"), ch(".", link="a#x"), im("f"))}, contents=((0, "A", "a#x"),),
                       **figures(("f", "a")))
        self.assertEqual(self.left(book).book, book)

    def test_everything_taken_out(self):
        book = book_of({"a": PARA, "b": PARA}, **figures(("f", "a")))
        self.assertError(NoMain, {}, without, book, ("a", "b", "f"))
        self.assertError(NoMain, {}, without, book, ("b", "a"))
        self.assertEqual(slots_of(self.left(book, "a", "f").book), ["b"])

    def test_no_main_slot_is_left(self):
        book = book_of({"a": PARA, "b": PARA}, slots=(("a", True), ("b", False)), **figures(("f", None)))
        self.assertError(NoMain, {}, without, book, ("a",))
        self.left(book, "b")
        self.left(book, "f")

    def test_fallbacks(self):
        book = book_of({"a": PARA}, **figures(("b", "c"), ("c", "d"), ("d", "e"), ("e", "a"), ("f", "d"), ("g", None)))
        self.assertEqual(fallbacks_of(self.left(book, "c").book),
                         {"a": None, "b": "d", "d": "e", "e": "a", "f": "d", "g": None})
        self.assertEqual(fallbacks_of(self.left(book, "c", "d").book), {"a": None, "b": "e", "e": "a", "f": "e", "g": None})
        self.assertEqual(fallbacks_of(self.left(book, "e", "d", "c").book), {"a": None, "b": "a", "f": "a", "g": None})
        book = book_of({"a": PARA}, **figures(("b", "c"), ("c", "d"), ("d", None)))
        self.assertEqual(fallbacks_of(self.left(book, "c", "d").book), {"a": None, "b": None})
        self.assertEqual(fallbacks_of(self.left(book, "b").book), {"a": None, "c": "d", "d": None})

    def test_items_keep_their_order(self):
        book = book_of({"b": PARA, "a": PARA, "c": PARA}, **figures(("g", None), ("f", None)))
        self.assertEqual([item[0] for item in self.left(book, "g", "a").book.plain[1]], ["b", "c", "f"])

    def test_a_slot_whose_fallback_is_a_chapter_without_a_slot(self):
        book = book_of({"a": PARA, "b": PARA}, slots=(("f", True), ("b", False)), **figures(("f", "g"), ("g", "a")))
        self.assertEqual(self.left(book, "f").book.plain[2], (("g", True), ("b", False)))
        self.assertEqual(self.left(book, "f", "g").book.plain[2], (("a", True), ("b", False)))
        self.assertEqual(self.left(book, "g").book.plain[2], (("f", True), ("b", False)))

    def test_a_slot_whose_fallback_has_a_slot(self):
        book = book_of({"a": PARA}, slots=(("f", True), ("a", True)), **figures(("f", "a")))
        self.assertEqual(self.left(book, "f").book.plain[2], (("a", True),))
        book = book_of({"a": PARA}, slots=(("f", True), ("a", False)), **figures(("f", "a")))
        self.assertError(NoMain, {}, without, book, ("f",))

    def test_an_earlier_slot_has_it_now(self):
        book = book_of({"a": PARA}, slots=(("f", False), ("g", True), ("h", True)),
                       **figures(("f", "a"), ("g", "a"), ("h", "g")))
        self.assertEqual(self.left(book, "h").book.plain[2], (("f", False), ("g", True)))
        self.assertError(NoMain, {}, without, book, ("f", "g", "h"))
        book = book_of({"a": PARA}, slots=(("f", True), ("g", False)), **figures(("f", "a"), ("g", "a")))
        self.assertEqual(self.left(book, "f", "g").book.plain[2], (("a", True),))

    def test_a_chain_that_has_no_chapter_now(self):
        book = book_of({"a": PARA, "b": PARA}, slots=(("f", True), ("b", True)), **figures(("f", "a")))
        made = self.left(book, "a").book
        self.assertEqual(made.plain[2], (("b", True),))
        self.assertEqual(fallbacks_of(made), {"b": None, "f": None})
        book = book_of({"a": PARA, "b": PARA}, slots=(("f", True), ("b", True)), **figures(("f", "g"), ("g", "a")))
        self.assertEqual(self.left(book, "f", "a").book.plain[2], (("b", True),))

    def test_one_after_the_other_and_at_once(self):
        # Without g alone its slot becomes that of a, so that the main slot of f goes when f does.
        book = book_of({"a": PARA}, slots=(("f", True), ("g", False)), **figures(("f", "a"), ("g", "a")))
        made = self.left(book, "g").book
        self.assertEqual(made.plain[2], (("f", True), ("a", False)))
        self.assertError(NoMain, {}, without, made, ("f",))
        self.assertEqual(self.left(book, "f", "g").book.plain[2], (("a", True),))

    def test_taken_one_after_the_other_another_slot_stays(self):
        book = book_of({"a": PARA, "b": PARA}, slots=(("f", True), ("g", False), ("b", True)), **figures(("f", "g"), ("g", "a")))
        at_once = self.left(book, "f", "g").book
        in_turn = self.left(self.left(book, "f").book, "g").book
        self.assertEqual(at_once.plain[2], (("a", True), ("b", True)))
        self.assertEqual(in_turn.plain[2], (("a", False), ("b", True)))

    def test_images(self):
        chapter = node("para", ch("x", "code", link="out:x"), im("f"), im("g"), ch("y", link="out:x"), an("n"), im("f"))
        book = book_of({"a": chapter}, **figures(("f", "g"), ("g", None)))
        outcome = self.left(book, "f")
        self.assertEqual(outcome.book.chapter("a"),
                         node("para", ch("x", "code", link="out:x"), BLANK, im("g"), ch("y", link="out:x"), an("n"), BLANK))
        self.assertEqual([row[4] for row in outcome.links], ["kept", "kept"])

    def test_links_and_entries(self):
        one = node("para", an("x"), ch(".", "slant", link="b#y"), ch(".", link="a#x"), ch(".", link="out:b"))
        other = node("para", an("y"), ch(".", link="a#x"), ch(".", link="b#y"))
        # The third chapter has no slot: its links go with the anchors that they lead to.
        third = node("para", ch(".", link="b#y"), ch(".", link="a#x"))
        contents = ((0, "B", "b#y"), (1, "A", "a#x"), (2, "A", "a#x"), (1, "A", "a#x"))
        book = book_of({"a": one, "b": other, "c": third}, slots=(("b", True), ("a", True)), contents=contents)
        outcome = self.left(book, "b")
        self.check_carry_refuses(book, outcome)
        self.assertEqual(outcome.book.plain, (
            FIELDS,
            (("a", "chapter", node("para", an("x"), ch(".", "slant"), ch(".", link="a#x"), ch(".", link="out:b")), None),
             ("c", "chapter", node("para", ch("."), ch(".", link="a#x")), None)),
            (("a", True),),
            ((0, "A", "a#x"), (1, "A", "a#x"), (1, "A", "a#x")),
        ))
        self.assertEqual(outcome.links, [
            ("a", 2, 3, ("a", 2), "broken"), ("a", 3, 4, ("a", 3), "kept"), ("a", 4, 5, ("a", 4), "kept"),
            ("b", 2, 3, None, "gone"), ("b", 3, 4, None, "gone"),
            ("c", 1, 2, ("c", 1), "broken"), ("c", 2, 3, ("c", 2), "kept"),
        ])
        self.assertIsNone(outcome.carry("b", 2))
        self.assertIsNone(outcome.carry("b", 0, after=True))
        self.assertEqual(outcome.carry("c", 4), ("c", 4))

    def test_bad_ids(self):
        book = book_of({"a": PARA, "b": PARA}, slots=(("a", True),), **figures(("f", None)))
        self.check_unsound_first(without, None)
        for ids in BAD_IDS:
            self.assertError(BadOrder, {"number": None}, without, book, ids)
        for number, ids in ((0, ("z", "a")), (1, ("a", "a")), (2, ("a", "f", "a")), (1, ("b", None)), (0, (["a"],)),
                            (0, (1,)), (1, ("a", ("b",))), (0, (b"a",))):
            self.assertError(BadOrder, {"number": number}, without, book, ids)
        self.assertEqual(without(ids=("b", "f"), book=book).book, book_of({"a": PARA}))


class Extract(OutcomeCase):
    def kept(self, book, *ids):
        outcome = extract(book, ids)
        gone = [item[0] for item in book.plain[1] if item[0] not in outcome.book]
        return self.check(book, outcome, gone)

    def test_slots_in_the_order_of_the_book(self):
        book = book_of({"a": PARA, "b": PARA, "c": PARA}, slots=(("c", True), ("a", False), ("b", True)))
        self.assertEqual(self.kept(book, "b", "c").book, book_of({"b": PARA, "c": PARA}, slots=(("c", True), ("b", True))))
        self.assertEqual(self.kept(book, "b").book, book_of({"b": PARA}))
        self.assertEqual(self.kept(book, "a", "b", "c").book, book)

    def test_no_main(self):
        book = book_of({"a": PARA, "b": PARA}, slots=(("a", True), ("b", False)))
        self.assertError(NoMain, {}, extract, book, ("b",))
        self.assertError(NoMain, {}, extract, book, ())

    def test_what_fallbacks_and_images_name(self):
        chapters = {"a": node("para", im("f"), im("e")), "b": node("para", im("h")), "c": node("para", im("j")), "d": PARA}
        book = book_of(chapters, slots=(("a", True), ("d", True)), **figures(
            ("e", None), ("f", "g"), ("g", "b"), ("h", "i"), ("i", "c"), ("j", None), ("k", "a"), ("l", None)))
        self.assertEqual([item[0] for item in self.kept(book, "a").book.plain[1]],
                         ["a", "b", "c", "e", "f", "g", "h", "i", "j"])
        self.assertEqual([item[0] for item in self.kept(book, "d").book.plain[1]], ["d"])
        self.assertEqual(self.kept(book, "a").book.chapter("a"), chapters["a"])

    def test_slots_of_figures(self):
        book = book_of({"a": PARA, "b": PARA}, slots=(("f", True), ("a", True), ("b", True)), **figures(("f", "a")))
        made = self.kept(book, "f").book
        self.assertEqual(made.plain[2], (("f", True),))
        self.assertEqual([item[0] for item in made.plain[1]], ["a", "f"])

    def test_links_into_what_has_no_slot_now(self):
        one = node("para", an("x"), ch(".", link="b#y"), im("f"))
        book = book_of({"a": one, "b": node("para", an("y"), ch(".", link="a#x"))}, slots=(("a", True), ("b", True)),
                       contents=((0, "A", "a#x"), (1, "B", "b#y")), **figures(("f", "b")))
        outcome = self.kept(book, "a")
        self.assertEqual(outcome.book.plain, (
            FIELDS,
            (("a", "chapter", node("para", an("x"), ch("."), im("f")), None),
             ("b", "chapter", node("para", an("y"), ch(".", link="a#x")), None), ("f", "figure", "text", "b")),
            (("a", True),), ((0, "A", "a#x"),),
        ))
        self.assertEqual(outcome.links, [("a", 2, 3, ("a", 2), "broken"), ("b", 2, 3, ("b", 2), "kept")])

    def test_depths_are_lowered(self):
        chapters = {key: node("para", an("x"), an("y")) for key in "abc"}
        contents = ((0, "A", "a#x"), (1, "B", "b#x"), (2, "C", "c#x"), (3, "C", "c#x"), (2, "C", "c#y"))
        book = book_of(chapters, contents=contents)
        self.assertEqual([row[0] for row in self.kept(book, "a", "c").book.plain[3]], [0, 1, 2, 2])
        self.assertEqual([row[0] for row in self.kept(book, "c").book.plain[3]], [0, 1, 2])

    def test_bad_ids(self):
        book = book_of({"a": PARA, "b": PARA}, slots=(("a", True),), **figures(("f", None)))
        self.check_unsound_first(extract, None)
        for ids in BAD_IDS:
            self.assertError(BadOrder, {"number": None}, extract, book, ids)
        for number, ids in ((0, ("b",)), (1, ("a", "f")), (1, ("a", "a")), (0, ("z", "a")), (1, ("a", ["a"])), (0, (1,))):
            self.assertError(BadOrder, {"number": number}, extract, book, ids)
        self.assertEqual(extract(ids=("a",), book=book).book, book_of({"a": PARA}))


class RandomBooks(OutcomeCase):
    def test_without(self):
        many = 0
        for seed in range(400):
            chance = random.Random(seed)
            book = random_book(chance)
            keys = [item[0] for item in book.plain[1]]
            gone = tuple(chance.sample(keys, chance.randint(0, min(3, len(keys)))))
            wanted = wanted_slots(book, gone, book.plain[2])
            if not [main for _, main in wanted if main]:
                self.assertError(NoMain, {}, without, book, gone)
                continue
            many += 1
            made = self.check(book, without(book, gone), gone).book
            self.assertEqual(made.plain[2], wanted)
            for key, _, _, fallback in made.plain[1]:
                old = [] if book[key][3] is None else list(chain(book, book[key][3]))
                self.assertEqual(fallback, next((each for each in old if each not in gone), None))
        self.assertGreater(many, 150)

    def test_extract(self):
        many = 0
        for seed in range(400):
            chance = random.Random(seed)
            book = random_book(chance)
            keys = slots_of(book)
            ids = tuple(chance.sample(keys, chance.randint(1, len(keys))))
            try:
                made = extract(book, ids).book
            except BookError as error:
                self.assertIsInstance(error, NoMain)
                continue
            many += 1
            gone = [item[0] for item in book.plain[1] if item[0] not in made]
            self.check(book, extract(book, ids), gone)
            # What is kept names nothing that went, so that the slots and chapters are the old ones.
            self.assertEqual(made.plain[2], tuple(slot for slot in book.plain[2] if slot[0] in ids))
            named = set(ids)
            for key, kind, content, fallback in made.plain[1]:
                self.assertEqual(fallback, book[key][3])
                named |= {token[1] for token in content if token[0] == "image"} if kind == "chapter" else set()
                named |= {fallback} - {None}
            self.assertEqual(named, {item[0] for item in made.plain[1]})
        self.assertGreater(many, 150)

    def test_joined_lines_stay(self):
        chapter = joined(PARA, node("list", *node("item", *node("para", im("f")))))
        book = book_of({"a": chapter}, f=("figure", "", None))
        made = without(book, ("f",)).book.chapter("a")
        self.assertEqual(made, joined(PARA, node("list", *node("item", *node("para", BLANK)))))
        self.assertEqual(Book(items=(("a", "chapter", made, None),)).chapter("a"), made)


if __name__ == "__main__":
    unittest.main()
