"""Patches one after the other, rebasing and conflicts."""

import random

from bookpack.errors import BadPatch, Conflict, Misfit
from bookpack.patches import Patch
from tests.making import ASPECTS, Case, an, applied, ch, cl, im, line, node, op, random_chapter, random_patch

A, B, C, U = ch("a"), ch("b"), ch("c"), ch("u")


def conflicts(one, other):
    """All indexes and gaps at which two patches conflict, straight from the document's words."""
    found = set()
    for patch, against in ((one, other), (other, one)):
        for start, end, _ in patch.pieces:
            for low, high, _ in against.pieces:
                found |= set(range(start, end)) & set(range(low, high))
                if start == end and low < start < high:
                    found.add(start)
        for index, aspect, value in patch.changes:
            found |= {index for low, high, _ in against.pieces if low <= index < high}
            for number, word, worth in against.changes:
                if (number, word) == (index, aspect) and worth is not value and worth != value:
                    found.add(index)
    return found


class Then(Case):
    def test_pieces_make_one(self):
        one = Patch(5, ((1, 2, (U,)),))
        self.assertEqual(one.then(Patch(5, ((1, 2, ()),))), Patch(5, ((1, 2, ()),)))
        self.assertEqual(one.then(Patch(5, ((2, 2, (C,)),))), Patch(5, ((1, 2, (U, C)),)))
        self.assertEqual(one.then(Patch(5, ((2, 3, (C,)),))), Patch(5, ((1, 3, (U, C)),)))
        self.assertEqual(one.then(Patch(5, ((3, 4, ()),))), Patch(5, ((1, 2, (U,)), (3, 4, ()))))
        self.assertEqual(one.then(other=Patch(5, ((0, 5, ()),))), Patch(5, ((0, 5, ()),)))

    def test_what_was_put_is_removed(self):
        one = Patch(5, ((2, 2, (U, U)),))
        self.assertEqual(one.then(Patch(7, ((2, 4, ()),))), Patch(5))
        self.assertEqual(one.then(Patch(7, ((1, 3, ()),))), Patch(5, ((1, 2, (U,)),)))
        two = Patch(5, ((1, 1, (U,)), (3, 3, (U,))))
        self.assertEqual(two.then(Patch(7, ((2, 4, ()),))), Patch(5, ((1, 3, (U, U)),)))

    def test_first_and_last_gap(self):
        one = Patch(2, ((0, 0, (A,)), (2, 2, (B,))))
        self.assertEqual(one.then(Patch(4, ((0, 0, (U,)), (4, 4, (C,))))), Patch(2, ((0, 0, (U, A)), (2, 2, (B, C)))))

    def test_changes_replace(self):
        one = Patch(5, ((1, 1, (U,)),), ((2, "code", True), (2, "link", "a#b"), (3, "slant", True)))
        other = Patch(6, ((4, 5, ()),), ((3, "code", False), (3, "strong", True)))
        self.assertEqual(
            one.then(other),
            Patch(5, ((1, 1, (U,)), (3, 4, ())), ((2, "code", False), (2, "link", "a#b"), (2, "strong", True))),
        )

    def test_changes_of_put_tokens_are_made_there(self):
        one = Patch(2, ((1, 1, (U, op("para"), cl("section"))),))
        other = Patch(5, (), ((1, "code", True), (1, "link", "a#b"), (2, "kind", "head1"), (3, "kind", "quote")))
        made = one.then(other)
        self.assertEqual(made, Patch(2, ((1, 1, (ch("u", "code", link="a#b"), op("head1"), cl("quote"))),)))
        other = Patch(5, ((1, 2, ()),), ((2, "kind", "head1"),))
        self.assertEqual(one.then(other), Patch(2, ((1, 1, (op("head1"), cl("section"))),)))

    def test_changes_of_tokens_that_stay_are_not_judged(self):
        one = Patch(2, (), ((0, "kind", "list"),))
        self.assertEqual(one.then(Patch(2, (), ((0, "kind", "para"),))), Patch(2, (), ((0, "kind", "para"),)))
        other = Patch(2, (), ((0, "code", True),))
        self.assertEqual(one.then(other), Patch(2, (), ((0, "code", True), (0, "kind", "list"))))

    def test_other_size(self):
        for size in (4, 6, 2000):
            self.assertError(Misfit, {"index": None}, Patch(4, ((0, 0, (A,)),)).then, Patch(size))
        self.assertError(Misfit, {"index": None}, Patch(0, ((0, 0, (A,) * 2001),)).then, Patch(2000))

    def test_changes_that_do_not_fit(self):
        put = (U, an("x"), im("y"), op("para"), cl("list"))
        one = Patch(1, ((1, 1, put),))
        fitting = {"code": (1,), "slant": (1,), "strong": (1,), "link": (1,)}
        for index in range(1, 6):
            for aspect in ASPECTS:
                for value in {"kind": ("para", "list"), "link": (None,)}.get(aspect, (True, False)):
                    fits = index in fitting.get(aspect, ()) or (index, value) in ((4, "para"), (5, "list"))
                    other = Patch(6, (), ((0, "code", True), (index, aspect, value)))
                    if fits:
                        self.assertEqual(one.then(other).changes, ((0, "code", True),))
                    else:
                        self.assertError(Misfit, {"index": 1}, one.then, other)
        other = Patch(6, (), ((1, "code", True), (2, "code", True), (3, "code", True)))
        self.assertError(Misfit, {"index": 1}, one.then, other)

    def test_nothing_before_or_behind(self):
        chance = random.Random(23)
        for _ in range(200):
            tokens = random_chapter(chance)
            patch = random_patch(chance, tokens)
            self.assertEqual(Patch(patch.size).then(patch), patch)
            self.assertEqual(patch.then(Patch(patch.new_size)), patch)

    def test_against_both(self):
        chance = random.Random(24)
        for _ in range(400):
            tokens = random_chapter(chance)
            one = random_patch(chance, tokens)
            between = applied(one, tokens)
            other = random_patch(chance, between)
            after = applied(other, between)
            third = random_patch(chance, after)
            both = one.then(other)
            self.assertEqual(applied(both, tokens), after)
            self.assertEqual((both.size, both.new_size), (one.size, other.new_size))
            self.assertEqual(both.then(third), one.then(other.then(third)))
            stay = [index for index in range(len(tokens) + 1) if self.stays(one, other, index, len(tokens))]
            self.assertEqual(stay, [index for index in range(len(tokens) + 1) if self.stays(both, None, index, len(tokens))])
            for index in stay:
                self.assertEqual(
                    both.carry(index, after=True), other.carry(one.carry(index, after=True), after=True)
                )

    def stays(self, one, other, index, size):
        """Whether a token stays in one patch and then in the other one; the end counts as a token."""
        for patch in (one, other):
            if patch is not None and any(start <= index < end for start, end, _ in patch.pieces):
                return False
            index = index if patch is None else patch.carry(index, after=True)
        return True

    def test_with_undo(self):
        chance = random.Random(25)
        for _ in range(300):
            chapter = random_chapter(chance)
            patch = Patch(len(chapter), ((0, 0, line("x")),))
            self.assertEqual(patch.then(patch.undo(chapter)), Patch(len(chapter)))


class Rebase(Case):
    def test_documents_examples(self):
        one = Patch(5, ((1, 2, ()), (3, 4, ())))
        other = Patch(5, ((2, 3, ()),))
        self.assertEqual(one.rebase(other), Patch(4, ((1, 3, ()),)))
        self.assertEqual(other.rebase(one), Patch(3, ((1, 2, ()),)))
        self.assertEqual(other.then(one.rebase(other))(line("abc")), line(""))

    def test_other_size(self):
        for size in (3, 5):
            self.assertError(Misfit, {"index": None}, Patch(4).rebase, Patch(size))
        with self.assertRaises(TypeError):
            Patch(4).rebase(Patch(4), True)

    def test_put_at_the_beginning_and_end_of_a_piece(self):
        other = Patch(5, ((1, 3, (U,)),))
        self.assertEqual(Patch(5, ((1, 1, (A,)),)).rebase(other), Patch(4, ((1, 1, (A,)),)))
        self.assertEqual(Patch(5, ((3, 3, (A,)),)).rebase(other), Patch(4, ((2, 2, (A,)),)))
        for first in (True, False):
            self.assertEqual(Patch(5, ((1, 1, (A,)),)).rebase(other, first=first).pieces, ((1, 1, (A,)),))
            self.assertEqual(Patch(5, ((3, 3, (A,)),)).rebase(other, first=first).pieces, ((2, 2, (A,)),))
            self.assertEqual(other.rebase(Patch(5, ((1, 1, (A,)),)), first=first).pieces, ((2, 4, (U,)),))
            self.assertEqual(other.rebase(Patch(5, ((3, 3, (A,)),)), first=first).pieces, ((1, 3, (U,)),))

    def test_both_put_at_one_gap(self):
        one, other = Patch(3, ((1, 1, (A, A)),)), Patch(3, ((1, 1, (B,)),))
        self.assertEqual(one.rebase(other).pieces, ((2, 2, (A, A)),))
        self.assertEqual(one.rebase(other=other, first=False).pieces, ((2, 2, (A, A)),))
        self.assertEqual(one.rebase(other, first=True).pieces, ((1, 1, (A, A)),))
        self.assertEqual(other.rebase(one).pieces, ((3, 3, (B,)),))

    def test_neighboring_pieces(self):
        one, other = Patch(4, ((1, 2, (A,)),)), Patch(4, ((2, 3, (B, B)),))
        self.assertEqual(one.rebase(other), Patch(5, ((1, 2, (A,)),)))
        self.assertEqual(other.rebase(one), Patch(4, ((2, 3, (B, B)),)))

    def test_pieces_that_touch_are_joined(self):
        one = Patch(6, ((1, 1, (A,)), (2, 3, (B,)), (4, 4, (C,))))
        other = Patch(6, ((1, 2, ()), (3, 4, ())))
        self.assertEqual(one.rebase(other), Patch(4, ((1, 2, (A, B, C)),)))
        self.assertEqual(one.rebase(Patch(6, ((1, 2, (U,)), (3, 4, ())))), Patch(5, ((1, 1, (A,)), (2, 3, (B, C)))))

    def test_changes(self):
        one = Patch(4, (), ((1, "code", True), (1, "link", None), (2, "slant", True)))
        other = Patch(4, ((0, 0, (A,)),), ((1, "code", True), (2, "strong", False)))
        self.assertEqual(one.rebase(other), Patch(5, (), ((2, "link", None), (3, "slant", True))))
        self.assertEqual(other.rebase(one), Patch(4, ((0, 0, (A,)),), ((2, "strong", False),)))

    def test_conflict_of_removed_tokens(self):
        one = Patch(9, ((0, 1, ()), (3, 6, ())))
        for piece, place in (((2, 4, ()), 3), ((5, 9, ()), 5), ((4, 5, (A,)), 4), ((0, 9, ()), 0), ((3, 6, ()), 3)):
            self.assertError(Conflict, {"place": place}, one.rebase, Patch(9, (piece,)))
            self.assertError(Conflict, {"place": place}, Patch(9, (piece,)).rebase, one)
        for piece in ((2, 3, ()), (6, 7, ()), (1, 3, ()), (3, 3, (A,)), (6, 6, (A,)), (1, 1, (A,))):
            self.assertEqual(one.rebase(Patch(9, (piece,))).size, 9 + len(piece[2]) - (piece[1] - piece[0]))

    def test_conflict_of_a_gap_inside(self):
        one = Patch(9, ((3, 6, (U,)),))
        for gap in range(10):
            other = Patch(9, ((gap, gap, (A,)),))
            if gap in (4, 5):
                self.assertError(Conflict, {"place": gap}, one.rebase, other)
                self.assertError(Conflict, {"place": gap}, other.rebase, one, first=True)
            else:
                self.assertEqual(one.rebase(other).size, 10)
                self.assertEqual(other.rebase(one).size, 7)

    def test_conflict_of_a_change_and_a_piece(self):
        one = Patch(9, ((3, 5, (U,)),))
        for index in range(9):
            other = Patch(9, (), ((index, "code", True),))
            if index in (3, 4):
                self.assertError(Conflict, {"place": index}, one.rebase, other)
                self.assertError(Conflict, {"place": index}, other.rebase, one)
            else:
                self.assertEqual(one.rebase(other), one)

    def test_conflict_of_changes(self):
        values = (("code", True, False), ("kind", "para", "head1"), ("link", None, "a#b"), ("link", "a#b", "a#c"),
                  ("slant", False, True), ("strong", True, False))
        for aspect, value, another in values:
            one, other = Patch(3, (), ((1, aspect, value),)), Patch(3, (), ((1, aspect, another),))
            self.assertError(Conflict, {"place": 1}, one.rebase, other)
            self.assertError(Conflict, {"place": 1}, other.rebase, one)
            self.assertEqual(one.rebase(one), Patch(3))
            self.assertEqual(one.rebase(Patch(3, (), ((0, aspect, another),))), one)

    def test_the_least_place_counts(self):
        one = Patch(9, ((6, 8, ()),), ((1, "code", True), (4, "code", True)))
        other = Patch(9, ((4, 5, ()), (7, 7, (A,))), ((1, "code", False),))
        self.assertError(Conflict, {"place": 1}, one.rebase, other)
        other = Patch(9, ((4, 5, ()), (7, 7, (A,))))
        self.assertError(Conflict, {"place": 4}, one.rebase, other)
        self.assertError(Conflict, {"place": 7}, one.rebase, Patch(9, ((7, 7, (A,)),)))
        self.assertError(Conflict, {"place": 6}, one.rebase, Patch(9, ((5, 8, ()),)))

    def test_too_large(self):
        other = Patch(1999, ((0, 0, (A, A)),))
        self.assertError(BadPatch, {"part": "size", "number": None}, Patch(1999).rebase, other)
        self.assertError(Conflict, {"place": 9}, Patch(1999, ((9, 10, ()),)).rebase,
                         Patch(1999, ((0, 0, (A, A)), (9, 10, ()))))
        self.assertEqual(Patch(1999).rebase(Patch(1999, ((0, 0, (A,)),))), Patch(2000))

    def test_nothing_rebased_or_under(self):
        chance = random.Random(26)
        for _ in range(100):
            patch = random_patch(chance, random_chapter(chance))
            self.assertEqual(patch.rebase(Patch(patch.size)), patch)
            self.assertEqual(Patch(patch.size).rebase(patch), Patch(patch.new_size))

    def test_against_both(self):
        chance = random.Random(27)
        many = 0
        for _ in range(3000):
            tokens = random_chapter(chance)
            one, other = random_patch(chance, tokens, 0.12), random_patch(chance, tokens, 0.12)
            places = conflicts(one, other)
            if places:
                self.assertError(Conflict, {"place": min(places)}, one.rebase, other)
                self.assertError(Conflict, {"place": min(places)}, other.rebase, one)
                continue
            many += 1 if one and other else 0
            for first in (True, False):
                left = one.rebase(other, first=first)
                right = other.rebase(one, first=not first)
                self.assertEqual(left.size, other.new_size)
                self.assertEqual(applied(left, applied(other, tokens)), applied(right, applied(one, tokens)))
                self.assertEqual(applied(other.then(left), tokens), applied(one.then(right), tokens))
                self.assertEqual(sum(end - start for start, end, _ in left.pieces),
                                 sum(end - start for start, end, _ in one.pieces))
                self.assertEqual([token for piece in left.pieces for token in piece[2]],
                                 [token for piece in one.pieces for token in piece[2]])
                for start, end, _ in one.pieces:
                    for index in range(start, end):
                        place = other.carry(index, after=True)
                        self.assertTrue(any(low <= place < high for low, high, _ in left.pieces))
        self.assertGreater(many, 500)

    def test_chapters(self):
        chapter = node("section", *line("abc"))
        one = Patch(7, ((0, 1, ()), (6, 7, ())))
        other = Patch(7, ((3, 3, (U,)),))
        self.assertEqual(one.rebase(other)(other(chapter)), line("aubc"))
        self.assertEqual(other.rebase(one)(one(chapter)), line("aubc"))
