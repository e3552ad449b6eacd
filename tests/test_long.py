"""Chapters that are as long as they may be, or one token longer: the same answers as for short ones ([11], [12])."""

import random
import unittest
from unittest.mock import ANY

from bookpack.branches import merge
from bookpack.chapters import first_bad, is_token
from bookpack.drafts import Draft
from bookpack.edits import delete, insert, join, rename, restyle, split, unwrap, wrap
from bookpack.errors import BadChapter, BadToken, Clash, Conflict
from bookpack.moves import Move, moving
from bookpack.patches import Patch
from tests.making import Case, an, applied, book_of, ch, cl, im, line, node, op, random_chapter, random_patch

B = ch("b")


def long(count):
    """A line of so many chars, which are two tokens less than the chapter."""
    return line("a" * count)


def slow_first_bad(value):
    """The answer of the document's words, with a look at each token by itself."""
    kinds = []
    for index, token in enumerate(value):
        inner = kinds[-1] if kinds else None
        if not is_token(token):
            return index
        if token[0] == "open":
            fits = inner not in ("head1", "head2", "head3", "para") and len(kinds) < 12
            fits = fits and (token[1] == "item") == (inner == "list")
            kinds.append(token[1])
        elif token[0] == "close":
            fits = token[1] == inner
            kinds = kinds[:-1]
        else:
            fits = inner in ("head1", "head2", "head3", "para")
        if not fits or index + 1 + len(kinds) > 2000:
            return index
    return len(value) if kinds else None


class FirstBad(Case):
    def test_lines(self):
        for count in (0, 1, 1995, 1996, 1997, 1998):
            self.assertIsNone(first_bad(long(count)))
        self.assertEqual(first_bad(long(1999)), 1999)
        self.assertEqual(first_bad(long(2500)), 1999)
        self.assertEqual(first_bad(long(1998)[:-1]), 1999)
        self.assertEqual(first_bad(long(1999)[:-1]), 1999)
        self.assertEqual(first_bad(long(1998) + (B,)), 2000)
        self.assertEqual(first_bad(long(1998) + (None,)), 2000)

    def test_last_tokens(self):
        for last in (op("para"), op("quote"), B, an("a"), im("a"), cl("quote")):
            for count in (1995, 1996, 1997):
                for rows in (long(count) + (last,), long(count) + (last, cl("para")), long(count)[:-1] + (last,)):
                    self.assertEqual(first_bad(rows), slow_first_bad(rows))

    def test_nested_to_the_end(self):
        for depth in range(1, 13):
            boxes = ("section",) * (depth - 1)
            for count in (1990, 2000 - 2 * depth, 2001 - 2 * depth):
                rows = tuple(map(op, boxes)) + line("a" * count) + tuple(map(cl, boxes))
                self.assertEqual(first_bad(rows), slow_first_bad(rows))

    def test_tokens_of_every_form(self):
        plain = [ch("a"), ch("b", "code"), ch("c", "code", "strong", link="a#b"), ch("~", link="out:x"), an("a"), im("b")]
        rows = node("para", *(plain * 333))
        self.assertEqual(len(rows), 2000)
        self.assertIsNone(first_bad(rows))
        self.assertIsNone(first_bad(rows[:1000] + rows[1001:]))

    def test_what_is_no_token_behind_what_was_seen(self):
        good = (op("para"), ch("a", "code", "slant", link="a#b"), ch("b"), an("a"), im("a"), ch("a", link="out:x"))
        bad = [
            ("char", "a#b", (), None), ("char", "a", (), "a"), ("char", "a", (), "b"), ("char", None, (), None),
            ("char", "a", (), ANY), ("char", ANY, (), None), ("char", "a", ANY, None), (ANY, "a", (), None),
            ("char", "a", (ANY,), None), ("char", "a", ("code", ANY), None), ("char", "a", [], None), ANY,
            ("char", ["a"], (), None), (["char"], "a", (), None), ("char", "a", (["code"],), None), ["char", "a", (), None],
            ("char", "a", (), ["a#b"]), ("char", "a", ("slant", "code"), None), ("char", "a", ("code", "code"), None),
            ("char", "a", ("bold",), None), ("char", "a", (), False), ("char", "a", (), ""), ("char", "", (), None),
            ("chars", "a", (), None), ("open", "a", (), None), ("char", "a", ()), ("char", "a", (), None, None), ("anchor",),
            ("anchor", ANY), ("open", "a"), ("char", "a"), ("a", "a"), ("open", ANY), (ANY, "para"), ("close", ["para"]), ("char", "%", (), None), ("char", "ab", (), None),
            ("char", "\n", (), None), ("char", b"a", (), None), ("char", "a", ("code",) * 20, None), (), None, 1, "char",
        ]
        for value in bad:
            self.assertIs(is_token(value), False)
            self.assertEqual(first_bad(good + (value, cl("para"))), 6)
            self.assertEqual(first_bad(good + (value,)), 6)
            self.assertEqual(first_bad(good + (ch("c"), value, cl("quote"))), 7)
            self.assertEqual(first_bad((cl("para"), value)), 0)
            self.assertError(BadToken, {"index": 5}, insert, (), 0, good[1:] + (value,))

    def test_random_rows(self):
        for seed in range(400):
            chance = random.Random(seed)
            rows = list(random_chapter(chance, 5) + random_chapter(chance, 5))
            for _ in range(chance.randint(0, 2)):
                at = chance.randint(0, len(rows))
                rows[at:at + chance.randint(0, 1)] = [chance.choice((op("item"), cl("para"), B, ("char", "b", [], None), None))]
            fill = chance.choice((0, 0, 1985, 1995)) - len(rows)
            rows = tuple(node("para", *[B] * fill) + tuple(rows) if fill > 2 else rows)
            self.assertEqual(first_bad(rows), slow_first_bad(rows))


class Edits(Case):
    def test_a_char_put_into_a_line(self):
        for count in (16, 1996, 1997):
            for gap in (1, 2, count // 2, count + 1):
                patch = insert(long(count), gap, (B,))
                self.assertEqual(patch, Patch(count + 2, ((gap, gap, (B,)),)))
                made = line("a" * (gap - 1) + "b" + "a" * (count + 1 - gap))
                self.assertEqual(patch(long(count)), made)
                self.assertEqual(patch.undo(long(count)), Patch(count + 3, ((gap, gap + 1, ()),)))
                self.assertEqual(patch.undo(long(count))(made), long(count))

    def test_a_char_too_many(self):
        for gap in (1, 2, 999, 1998, 1999):
            self.assertError(BadChapter, {"index": 1999}, insert, long(1998), gap, (B,))
            self.assertError(BadChapter, {"index": 1999}, Patch(2000, ((gap, gap, (B,)),)), long(1998))
            self.assertError(BadChapter, {"index": 1999}, Patch(2000, ((gap, gap, (B,)),)).undo, long(1998))
        for gap in (0, 2000):
            wanted = 0 if gap == 0 else 2000
            self.assertError(BadChapter, {"index": wanted}, insert, long(1998), gap, (B,))
        self.assertError(BadChapter, {"index": 1999}, insert, long(1996), 1, (B,) * 3)
        self.assertError(BadChapter, {"index": 1999}, insert, long(1999), 1, ())
        self.assertEqual(insert(long(1996), 1, (B, B)).new_size, 2000)

    def test_glyphs_outside_of_lines(self):
        chapter = node("quote", *long(1990))
        for gap, index in ((0, 0), (1, 1), (1993, 1993), (1994, 1994)):
            for token in (B, an("a"), im("a")):
                self.assertError(BadChapter, {"index": index}, insert, chapter, gap, (token,))
                self.assertError(BadChapter, {"index": index}, Patch(1994, ((gap, gap, (token,)),)), chapter)
        for gap in (2, 3, 1992):
            self.assertEqual(insert(chapter, gap, (an("a"),)).pieces, ((gap, gap, (an("a"),)),))
        double = line("a" * 900) * 2
        self.assertError(BadChapter, {"index": 902}, insert, double, 902, (B,))
        self.assertError(BadChapter, {"index": 902}, Patch(1804, ((1, 2, ()), (3, 3, (B,)), (902, 902, (B,)))), double)

    def test_other_edits(self):
        chapter = long(1996)
        self.assertEqual(delete(chapter, 1, 1996).pieces, ((1, 1997, ()),))
        self.assertEqual(delete(chapter, 900, 2)(chapter), long(1994))
        self.assertEqual(delete(chapter, 0, 1).new_size, 0)
        self.assertEqual(split(chapter, 5).pieces, ((5, 5, (cl("para"), op("para"))),))
        self.assertError(BadChapter, {"index": 1999}, split, long(1997), 5)
        self.assertEqual(split(chapter, 5, kind="head1").changes, ((1997, "kind", "head1"),))
        self.assertEqual(join(long(998) * 2, 1000).pieces, ((999, 1001, ()),))
        self.assertEqual(wrap(chapter, 0, 1, "quote").new_size, 2000)
        self.assertError(BadChapter, {"index": 1998}, wrap, long(1997), 0, 1, "quote")
        self.assertEqual(unwrap(node("quote", *chapter), 0)(node("quote", *chapter)), chapter)
        self.assertEqual(rename(chapter, 0, "head2").changes, ((0, "kind", "head2"), (1997, "kind", "head2")))
        self.assertEqual(restyle(chapter, 0, 1998, code=True).changes, tuple((at, "code", True) for at in range(1, 1997)))
        self.assertError(BadChapter, {"index": 1999}, restyle, long(1999), 0, 1)

    def test_moves(self):
        chapter = line("b" + "a" * 1997)
        move = Move(2000, 1, 2, 1000)
        self.assertEqual(move(chapter), line("a" * 998 + "b" + "a" * 999))
        self.assertEqual(moving(chapter, 1, 1, 1000).patch(chapter).pieces, ((1, 2, ()), (1000, 1000, (B,))))
        self.assertError(BadChapter, {"index": 0}, Move(2000, 1, 2, 0), chapter)
        self.assertError(BadChapter, {"index": 1999}, moving, chapter, 1, 1, 2000)
        self.assertError(BadChapter, {"index": 1999}, Move(2000, 1, 2, 5), long(1999))

    def test_many_edits_one_after_another(self):
        draft = Draft(book_of({"a": long(1500)}))
        chapter = long(1500)
        for number in range(300):
            gap = 1 + number * 7 % 1500
            patch = insert(chapter, gap, (B,))
            draft.do("a", patch)
            chapter = chapter[:gap] + (B,) + chapter[gap:]
            self.assertEqual(patch.new_size, 1503 + number)
        self.assertEqual(draft.book.chapter("a"), chapter)
        while draft.undo():
            pass
        self.assertEqual(draft.book.chapter("a"), long(1500))


class Branches(Case):
    def test_many_patches(self):
        chapter = long(1900)
        ours = tuple(Patch(1902 + at, ((1 + at, 1 + at, (B,)),)) for at in range(40))
        theirs = tuple(Patch(1902 + at, ((1901 + at, 1901 + at, (ch("c"),)),)) for at in range(40))
        self.assertEqual(merge(chapter, ours, theirs).result, line("b" * 40 + "a" * 1900 + "c" * 40))

    def test_too_long_together(self):
        chapter = long(1994)
        ours = tuple(Patch(1996 + at, ((1, 1, (B,)),)) for at in range(4))
        theirs = (Patch(1996), Patch(1996, ((9, 9, (B,)),)))
        self.assertError(Clash, {"first": 3, "second": 1, "place": None}, merge, chapter, ours, theirs)
        self.assertEqual(len(merge(chapter, ours[:3], theirs).result), 2000)

    def test_a_line_that_the_other_side_removes(self):
        chapter = long(1900)
        ours = (Patch(1902, ((0, 1902, ()),)),)
        theirs = (Patch(1902, ((1902, 1902, line("b")),)),)
        self.assertEqual(merge(chapter, ours, theirs).result, line("b"))
        theirs = (Patch(1902, ((5, 5, (B,)),)),)
        self.assertError(Clash, {"first": 0, "second": 0, "place": 5}, merge, chapter, ours, theirs)


class RandomPatches(Case):
    def test_against_the_words(self):
        many = bad = 0
        for seed in range(500):
            chance = random.Random(seed)
            chapter = random_chapter(chance, 5)
            fill = chance.choice((0, 0, 0, 1990)) - len(chapter)
            chapter = node("para", *[B] * fill) + chapter if fill > 2 else chapter
            patch = random_patch(chance, chapter, rate=0.15 if len(chapter) < 100 else 0.01)
            made = applied(patch, chapter)
            index = slow_first_bad(made)
            if index is None:
                many += 1
                self.assertEqual(patch(chapter), made)
                self.assertEqual(patch.undo(chapter)(made), chapter)
            else:
                bad += 1
                self.assertError(BadChapter, {"index": index}, patch, chapter)
                self.assertError(BadChapter, {"index": index}, patch.undo, chapter)
        self.assertGreater(many, 60)
        self.assertGreater(bad, 60)

    def test_carry_goes_by_pieces(self):
        for seed in range(200):
            chance = random.Random(seed)
            patch = random_patch(chance, random_chapter(chance, 8) * 3, rate=0.4)
            for gap in range(patch.size + 1):
                for after in (False, True):
                    place = gap
                    for start, end, tokens in patch.pieces:
                        if start <= gap <= end:
                            place = start + place - gap + (len(tokens) if after else 0)
                            break
                        if end < gap:
                            place += len(tokens) - (end - start)
                    self.assertEqual(patch.carry(gap, after), place)

    def test_rebased_patches_are_well_formed(self):
        for seed in range(300):
            chance = random.Random(seed)
            chapter = random_chapter(chance, 6)
            one, other = random_patch(chance, chapter), random_patch(chance, chapter)
            try:
                made = one.rebase(other, first=chance.random() < 0.5)
            except Conflict:
                continue
            self.assertEqual(Patch(made.size, made.pieces, made.changes), made)
            self.assertEqual(made.new_size, Patch(made.size, made.pieces, made.changes).new_size)


if __name__ == "__main__":
    unittest.main()
