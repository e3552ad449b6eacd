"""Patches: what they are, applying, undoing and carrying."""

import random

from bookpack.errors import BadChapter, BadNumber, BadPatch, Misfit
from bookpack.patches import Patch
from tests.making import (
    EXAMPLE, STRANGE, Case, an, applied, ch, cl, im, joined, line, node, op, random_chapter, random_patch,
)

A, B, C = ch("a"), ch("b"), ch("c")


class Making(Case):
    def test_properties(self):
        pieces = ((0, 1, ()), (2, 2, (A, B)), (3, 5, (C,)))
        changes = ((1, "code", True), (2, "kind", "list"))
        patch = Patch(6, pieces, changes)
        self.assertEqual((patch.size, patch.pieces, patch.changes, patch.new_size), (6, pieces, changes, 6))
        self.assertEqual(Patch(size=6, pieces=pieces, changes=changes), patch)
        for name in ("size", "pieces", "changes", "new_size"):
            with self.assertRaises(AttributeError):
                setattr(patch, name, 0)

    def test_without_pieces_and_changes(self):
        patch = Patch(4)
        self.assertEqual((patch.size, patch.pieces, patch.changes, patch.new_size), (4, (), (), 4))
        self.assertEqual(Patch(0)(()), ())
        self.assertEqual(Patch(6)(EXAMPLE), EXAMPLE)
        self.assertEqual(Patch(6).undo(EXAMPLE), Patch(6))

    def test_new_size(self):
        self.assertEqual(Patch(3, ((0, 3, ()),)).new_size, 0)
        self.assertEqual(Patch(0, ((0, 0, (A,) * 2500),)).new_size, 2500)
        self.assertEqual(Patch(9, ((1, 3, (A,)), (5, 5, (B, C, A)))).new_size, 11)

    def test_size(self):
        for size in (0, 1, 1999, 2000):
            self.assertEqual(Patch(size).size, size)
        for size in STRANGE + (2001, None, 10**8):
            self.assertError(BadPatch, {"part": "size", "number": None}, Patch, size)

    def test_no_tuples(self):
        for value in (None, [], [(0, 1, ())], {}, 1, "", True):
            self.assertError(BadPatch, {"part": "pieces", "number": None}, Patch, 3, value)
            self.assertError(BadPatch, {"part": "changes", "number": None}, Patch, 3, (), value)

    def test_bad_pieces(self):
        bad = [
            [1, 2, ()], (1, 2), (1, 2, (), ()), None, 3, (1, 1, ()), (2, 1, (A,)), (-1, 1, ()), (1, 6, ()), (6, 6, (A,)),
            (True, 2, ()), (1, True, (A,)), (1, 2, None), (1, 2, [A]), (1, 2, A), (1, 2, (A, 1)), (1, 2, (list(A),)),
            ("1", 2, ()), (1, None, ()), (1.0, 2, ()), (1, 2, (("char", "ab", (), None),)), (1, False, (A,)),
        ]
        for piece in bad:
            self.assertError(BadPatch, {"part": "pieces", "number": 0}, Patch, 5, (piece,))
            self.assertError(BadPatch, {"part": "pieces", "number": 0}, Patch, 5, (piece, piece))
        for piece in bad:
            self.assertError(BadPatch, {"part": "pieces", "number": 1}, Patch, 5, ((0, 0, (A,)), piece, 7))

    def test_edges_of_pieces(self):
        for piece in ((0, 0, (A,)), (5, 5, (A,)), (0, 5, ()), (0, 1, ()), (4, 5, ()), (4, 5, (A,))):
            self.assertEqual(Patch(5, (piece,)).pieces, (piece,))
        self.assertError(BadPatch, {"part": "pieces", "number": 0}, Patch, 0, ((0, 0, ()),))

    def test_pieces_must_not_touch(self):
        for one, other in (
            ((1, 2, ()), (2, 3, ())), ((1, 2, ()), (2, 2, (A,))), ((2, 2, (A,)), (2, 2, (A,))), ((2, 2, (A,)), (2, 3, ())),
            ((1, 3, ()), (2, 4, ())), ((3, 4, ()), (1, 2, ())),
        ):
            self.assertError(BadPatch, {"part": "pieces", "number": 1}, Patch, 5, (one, other))
        for one, other in (((1, 2, ()), (3, 3, (A,))), ((2, 2, (A,)), (3, 4, ())), ((0, 0, (A,)), (1, 1, (A,)))):
            self.assertEqual(Patch(5, (one, other)).pieces, (one, other))

    def test_bad_changes(self):
        bad = [
            [1, "code", True], (1, "code"), (1, "code", True, True), None, (-1, "code", True), (5, "code", True),
            (True, "code", True), ("1", "code", True), (1, "bold", True), (1, "", True), (1, None, True), (1, [], True),
            (1, "code", 1), (1, "code", 0), (1, "slant", None), (1, "strong", "yes"), (1, "link", "same"), (1, "link", 0),
            (1, "link", False), (1, "link", ["a#b"]), (1, "kind", None), (1, "kind", "box"), (1, "kind", ["para"]),
            (1, "kind", True), (1, "char", "a"), (1, "Code", True),
        ]
        for change in bad:
            self.assertError(BadPatch, {"part": "changes", "number": 0}, Patch, 5, (), (change, change))
            self.assertError(BadPatch, {"part": "changes", "number": 1}, Patch, 5, (), ((0, "code", True), change, 7))
        self.assertError(BadPatch, {"part": "changes", "number": 0}, Patch, 0, (), ((0, "code", True),))

    def test_good_changes(self):
        values = {"code": (True, False), "slant": (True, False), "strong": (True, False),
                  "link": (None, "a#b", "out:x"),
                  "kind": ("section", "quote", "list", "item", "head1", "head2", "head3", "para")}
        for aspect, row in values.items():
            for value in row:
                for index in (0, 4):
                    self.assertEqual(Patch(5, (), ((index, aspect, value),)).changes, ((index, aspect, value),))

    def test_order_of_changes(self):
        aspects = (("code", True), ("kind", "para"), ("link", None), ("slant", False), ("strong", True))
        every = tuple((index, aspect, value) for index in range(3) for aspect, value in aspects)
        self.assertEqual(Patch(3, (), every).changes, every)
        for one in range(len(every)):
            for other in range(one + 1):
                self.assertError(BadPatch, {"part": "changes", "number": 1}, Patch, 3, (), (every[one], every[other]))

    def test_changes_of_removed_tokens(self):
        pieces = ((1, 3, ()), (4, 5, (A,)), (6, 6, (A,)))
        for index in range(7):
            change = (index, "code", True)
            if index in (1, 2, 4):
                self.assertError(BadPatch, {"part": "changes", "number": 0}, Patch, 7, pieces, (change,))
            else:
                self.assertEqual(Patch(7, pieces, (change,)).changes, (change,))

    def test_order_of_errors(self):
        self.assertError(BadPatch, {"part": "size", "number": None}, Patch, -1, None, None)
        self.assertError(BadPatch, {"part": "pieces", "number": None}, Patch, 1, None, None)
        self.assertError(BadPatch, {"part": "pieces", "number": 1}, Patch, 4, ((0, 1, ()), 5), ((9, "code", True),))
        self.assertError(BadPatch, {"part": "changes", "number": 0}, Patch, 4, ((0, 1, ()),), ((9, "code", True), 3))

    def test_bool(self):
        self.assertIs(bool(Patch(4)), False)
        self.assertIs(bool(Patch(0)), False)
        self.assertIs(bool(Patch(4, ((1, 2, ()),))), True)
        self.assertIs(bool(Patch(4, (), ((1, "code", True),))), True)

    def test_equal(self):
        def made():
            return Patch(4, ((1, 2, (A,)),), ((0, "code", True),))
        self.assertTrue(made() == made())
        self.assertFalse(made() != made())
        for other in (
            Patch(5, ((1, 2, (A,)),), ((0, "code", True),)), Patch(4, ((1, 2, (B,)),), ((0, "code", True),)),
            Patch(4, ((1, 2, (A,)),), ((0, "code", False),)), Patch(4, ((1, 2, (A,)),)), Patch(4),
            (4, ((1, 2, (A,)),), ((0, "code", True),)), None, 4, "",
        ):
            self.assertFalse(made() == other)
            self.assertTrue(made() != other)


class Applying(Case):
    def test_pieces(self):
        chapter = line("abc")
        self.assertEqual(Patch(5, ((1, 2, ()),))(chapter), line("bc"))
        self.assertEqual(Patch(5, ((2, 2, (C,)), (3, 4, (A, A))))(chapter), line("acbaa"))
        self.assertEqual(Patch(5, ((0, 5, ()),))(chapter), ())
        self.assertEqual(Patch(5, ((5, 5, line("x")),))(chapter=chapter), chapter + line("x"))
        self.assertEqual(Patch(0, ((0, 0, line("x")),))(()), line("x"))

    def test_changes(self):
        chapter = joined(line("ab"), node("list"))
        changes = ((0, "kind", "head2"), (1, "link", "a#b"), (2, "code", True), (2, "strong", True), (3, "kind", "head2"),
                   (4, "kind", "section"), (5, "kind", "section"))
        self.assertEqual(
            Patch(6, (), changes)(chapter),
            (op("head2"), ch("a", link="a#b"), ch("b", "code", "strong"), cl("head2"), op("section"), cl("section")),
        )
        self.assertEqual(chapter, joined(line("ab"), node("list")))

    def test_each_style(self):
        for styles in ((), ("code",), ("code", "strong"), ("code", "slant", "strong")):
            for style in ("code", "slant", "strong"):
                for value in (True, False):
                    made = Patch(3, (), ((1, style, value),))(node("para", ch("x", *styles, link="out:x")))
                    expected = sorted(set(styles) | {style} if value else set(styles) - {style})
                    self.assertEqual(made, node("para", ch("x", *expected, link="out:x")))

    def test_link_is_taken_off(self):
        chapter = node("para", ch("x", "code", link="a#b"))
        self.assertEqual(Patch(3, (), ((1, "link", None),))(chapter), node("para", ch("x", "code")))

    def test_other_size(self):
        for size in (5, 7, 0):
            self.assertError(Misfit, {"index": None}, Patch(size), EXAMPLE)
            self.assertError(Misfit, {"index": None}, Patch(size).undo, EXAMPLE)

    def test_changes_that_do_not_fit(self):
        for aspect, value in (("code", True), ("slant", False), ("strong", False), ("link", None)):
            for index in range(6):
                patch = Patch(6, (), ((index, aspect, value),))
                if index == 2:
                    self.assertIsInstance(patch(EXAMPLE), tuple)
                else:
                    self.assertError(Misfit, {"index": index}, patch, EXAMPLE)
                    self.assertError(Misfit, {"index": index}, patch.undo, EXAMPLE)
        for kind in ("section", "quote", "list", "item"):
            for index in range(4):
                self.assertError(Misfit, {"index": index}, Patch(6, (), ((index, "kind", kind),)), EXAMPLE)
        for kind in ("head1", "head2", "head3", "para"):
            for index in (1, 2, 4, 5):
                self.assertError(Misfit, {"index": index}, Patch(6, (), ((index, "kind", kind),)), EXAMPLE)
        image = node("para", im("a"))
        self.assertError(Misfit, {"index": 1}, Patch(3, (), ((1, "kind", "para"),)), image)
        self.assertError(Misfit, {"index": 1}, Patch(3, (), ((1, "link", None),)), image)

    def test_the_first_misfit_counts(self):
        changes = ((0, "kind", "head2"), (1, "link", None), (3, "code", True))
        self.assertError(Misfit, {"index": 1}, Patch(6, (), changes), EXAMPLE)

    def test_results_that_are_no_chapter(self):
        chapter = line("abc")
        self.assertError(BadChapter, {"index": 0}, Patch(5, ((0, 1, ()),)), chapter)
        self.assertError(BadChapter, {"index": 4}, Patch(5, ((4, 5, ()),)), chapter)
        self.assertError(BadChapter, {"index": 4}, Patch(5, (), ((0, "kind", "head1"),)), chapter)
        self.assertError(BadChapter, {"index": 4}, Patch(5, (), ((0, "kind", "head1"),)).undo, chapter)
        self.assertError(BadChapter, {"index": 5}, Patch(5, ((5, 5, (A,)),)).undo, chapter)
        self.assertError(BadChapter, {"index": 1999}, Patch(5, ((1, 1, (A,) * 1996),)), chapter)
        self.assertEqual(len(Patch(5, ((1, 1, (A,) * 1995),))(chapter)), 2000)

    def test_order_of_errors(self):
        for value, index in ((None, -1), (list(EXAMPLE), -1), (EXAMPLE[:5], 5), (EXAMPLE + (0,), 6)):
            for function in (Patch(1), Patch(1).undo, Patch(6, (), ((0, "code", True),))):
                self.assertError(BadChapter, {"index": index}, function, value)
        self.assertError(Misfit, {"index": None}, Patch(7, (), ((0, "code", True),)), EXAMPLE)
        self.assertError(Misfit, {"index": 1}, Patch(6, ((0, 1, ()),), ((1, "code", True),)), EXAMPLE)

    def test_against_plain_lists(self):
        chance = random.Random(20)
        done = 0
        for _ in range(4000):
            chapter = random_chapter(chance, 4)
            patch = random_patch(chance, chapter, 0.08)
            made = applied(patch, chapter)
            self.assertEqual(len(made), patch.new_size)
            try:
                self.assertEqual(patch(chapter), made)
            except BadChapter:
                continue
            done += 1
            undo = patch.undo(chapter)
            self.assertEqual(undo.size, patch.new_size)
            self.assertEqual(undo(made), chapter)
            self.assertEqual([(len(put), end - start) for start, end, put in undo.pieces],
                             [(end - start, len(put)) for start, end, put in patch.pieces])
            again = undo.undo(made)
            self.assertEqual((again.size, again.pieces), (patch.size, patch.pieces))
            self.assertTrue(set(again.changes) <= set(patch.changes))
        self.assertGreater(done, 500)


class Undoing(Case):
    def test_pieces(self):
        patch = Patch(5, ((1, 2, (C, C)), (3, 3, (A,))))
        self.assertEqual(patch.undo(line("abc")), Patch(7, ((1, 3, (A,)), (4, 5, ()))))

    def test_changes(self):
        chapter = node("para", ch("a", "code", link="a#b"), ch("b"))
        patch = Patch(4, ((1, 1, (C,)),), ((0, "kind", "head1"), (1, "code", True), (1, "link", None), (1, "slant", True),
                                           (2, "strong", False), (3, "kind", "head1")))
        undo = patch.undo(chapter=chapter)
        self.assertEqual(undo, Patch(5, ((1, 2, ()),), ((0, "kind", "para"), (2, "link", "a#b"), (2, "slant", False),
                                                       (4, "kind", "para"))))
        self.assertEqual(undo(patch(chapter)), chapter)

    def test_changes_that_change_nothing(self):
        patch = Patch(6, (), ((0, "kind", "head1"), (2, "code", False), (2, "link", None), (4, "kind", "list")))
        self.assertEqual(patch(EXAMPLE), EXAMPLE)
        self.assertEqual(patch.undo(EXAMPLE), Patch(6))


class Carrying(Case):
    def test_pieces(self):
        patch = Patch(9, ((1, 3, (A,)), (5, 5, (B, C)), (7, 8, ())))
        self.assertEqual([patch.carry(gap) for gap in range(10)], [0, 1, 1, 1, 3, 4, 7, 8, 8, 9])
        self.assertEqual([patch.carry(gap, True) for gap in range(10)], [0, 2, 2, 2, 3, 6, 7, 8, 8, 9])
        self.assertEqual(patch.carry(gap=5, after=True), 6)
        self.assertEqual(patch.carry(5, after=False), 4)

    def test_edges(self):
        self.assertEqual([Patch(0).carry(0, after) for after in (False, True)], [0, 0])
        whole = Patch(2, ((0, 2, (A, A, A)),))
        self.assertEqual([whole.carry(gap) for gap in range(3)], [0, 0, 0])
        self.assertEqual([whole.carry(gap, after=True) for gap in range(3)], [3, 3, 3])
        put = Patch(2, ((0, 0, (A,)), (2, 2, (B,))))
        self.assertEqual([put.carry(gap) for gap in range(3)], [0, 2, 3])
        self.assertEqual([put.carry(gap, after=True) for gap in range(3)], [1, 2, 4])

    def test_bad_gaps(self):
        for gap in STRANGE + (5, None, 10**8):
            self.assertError(BadNumber, {"name": "gap"}, Patch(4).carry, gap)
            self.assertError(BadNumber, {"name": "gap"}, Patch(4).carry, gap, True)

    def test_tokens_that_stay(self):
        chance = random.Random(21)
        for _ in range(200):
            tokens = tuple(("char", "abcdefghijklmnopqrstuvwxyz"[k], (), None) for k in range(chance.randint(0, 20)))
            patch = random_patch(chance, tokens, put=lambda chance: an("new"))
            made = applied(Patch(patch.size, patch.pieces), tokens)
            gone = {index for start, end, _ in patch.pieces for index in range(start, end)}
            for index, token in enumerate(tokens):
                if index not in gone:
                    place = patch.carry(index, after=True)
                    self.assertEqual(made[place], token)
                    self.assertEqual(patch.carry(index + 1), place + 1)
            self.assertEqual(patch.carry(len(tokens), after=True), len(made))
            self.assertEqual(patch.carry(0), 0)
            for start in range(len(tokens)):
                for end in range(start + 1, len(tokens) + 1):
                    stay = [made.index(tokens[index]) for index in range(start, end) if index not in gone]
                    if stay:
                        found = patch.carry_range(start, end)
                        self.assertEqual(found, (patch.carry(start, after=True), patch.carry(end)))
                        self.assertTrue(found[0] <= stay[0] and stay[-1] < found[1])
                    else:
                        self.assertIsNone(patch.carry_range(start, end))

    def test_ranges(self):
        patch = Patch(9, ((1, 3, (A,)), (5, 5, (B, C)), (7, 8, ())))
        self.assertEqual(patch.carry_range(0, 9), (0, 9))
        self.assertEqual(patch.carry_range(start=1, end=4), (2, 3))
        self.assertEqual(patch.carry_range(4, 5), (3, 4))
        self.assertEqual(patch.carry_range(5, 6), (6, 7))
        self.assertEqual(patch.carry_range(4, 6), (3, 7))
        self.assertIsNone(patch.carry_range(1, 3))
        self.assertIsNone(patch.carry_range(2, 3))
        self.assertIsNone(patch.carry_range(7, 8))
        self.assertEqual(Patch(4, ((1, 2, ()), (3, 4, ()))).carry_range(1, 4), (1, 2))

    def test_bad_ranges(self):
        patch = Patch(5)
        for value in STRANGE + (6, None):
            self.assertError(BadNumber, {"name": "start"}, patch.carry_range, value, 3)
            self.assertError(BadNumber, {"name": "end"}, patch.carry_range, 2, value)
            self.assertError(BadNumber, {"name": "start"}, patch.carry_range, value, value)
        for start, end in ((2, 2), (3, 2), (5, 5), (0, 0), (5, 0)):
            self.assertError(BadNumber, {"name": "end"}, patch.carry_range, start, end)
        self.assertEqual(patch.carry_range(4, 5), (4, 5))
        self.assertEqual(patch.carry_range(0, 1), (0, 1))

    def test_document(self):
        one, other = Patch(5, ((1, 2, ()),)), Patch(5, ((2, 2, (("anchor", "n"),)),))
        self.assertEqual(
            (one.carry(4), one.rebase(other).pieces, other.rebase(one).pieces[0][:2]), (3, ((1, 2, ()),), (1, 1))
        )

    def test_wrong_texts_of_tokens(self):
        self.assertEqual(applied(Patch(2, ((1, 1, (cl("para"),)),)), (A, B)), (A, cl("para"), B))
