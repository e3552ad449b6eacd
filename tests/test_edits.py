"""Edits: the patches that they make, and what they refuse."""

import random

from bookpack.edits import delete, insert, join, rename, restyle, split, unwrap, wrap
from bookpack.errors import BadChapter, BadKind, BadLink, BadNumber, BadStyle, BadToken, NoNode
from bookpack.patches import Patch
from tests.making import (
    BOXES, LINES, STRANGE, Case, an, ch, cl, im, joined, line, node, op, random_chapter, random_token,
)
from tests.test_spots import spots_of

A, B = ch("a"), ch("b")
# A list of one item with a line and a box, and a line behind it: 0 list, 1 item, 2 para, 5 /para, 6 quote, 8 /item.
TREE = joined(node("list", *node("item", *line("ab"), *node("quote"))), line("c", "head1"))
NO_CHAPTERS = ((None, -1), (list(TREE), -1), (TREE[:4], 4), (TREE + (A,), 13), ((op("item"),), 0))
EDITS = (
    (insert, ((A,),)), (delete, (1,)), (split, ()), (join, ()), (wrap, (1, "quote")), (unwrap, ()), (rename, ("quote",)),
)
TWELVE = tuple(op("quote") for _ in range(11)) + line("a") + tuple(cl("quote") for _ in range(11))
FULL = line("a" * 1998)


def children(chapter, gap):
    """The gaps before and behind the children behind a gap, worked out from the spots."""
    steps = spots_of(chapter)
    return [at for at in range(gap, len(chapter) + 1)
            if len(steps[at]) == len(steps[gap]) and steps[at][:-1] == steps[gap][:-1]]


class All(Case):
    def test_no_chapter_comes_first(self):
        for value, index in NO_CHAPTERS:
            for edit, more in EDITS:
                self.assertError(BadChapter, {"index": index}, edit, value, -1, *more)
                self.assertError(BadChapter, {"index": index}, edit, value, 0, *(None for _ in more))
            self.assertError(BadChapter, {"index": index}, restyle, value, -1, -1, link=0, bold=1)

    def test_bad_gaps(self):
        for gap in STRANGE + (14, None, 10**8):
            for edit, more in EDITS:
                self.assertError(BadNumber, {"name": "gap"}, edit, TREE, gap, *more)
                self.assertError(BadNumber, {"name": "gap"}, edit, TREE, gap, *(None for _ in more))

    def test_the_chapter_stays(self):
        before = joined(TREE)
        insert(TREE, 3, (A,))
        delete(TREE, 2, 2)
        split(TREE, 4, kind="head1", levels=1)
        wrap(TREE, 2, 1, "quote")
        unwrap(TREE, 6)
        rename(TREE, 2, "head1")
        restyle(TREE, 0, 12, code=True, link="a#b")
        self.assertEqual(TREE, before)


class Insert(Case):
    def test_tokens(self):
        self.assertEqual(insert(TREE, 3, (B, A)), Patch(13, ((3, 3, (B, A)),)))
        self.assertEqual(insert((), 0, line("a")), Patch(0, ((0, 0, line("a")),)))
        self.assertEqual(insert(TREE, 13, node("list")), Patch(13, ((13, 13, node("list")),)))
        self.assertEqual(insert(chapter=TREE, gap=3, tokens=(A,)), Patch(13, ((3, 3, (A,)),)))

    def test_a_close_and_an_open_token(self):
        put = (cl("para"), op("para"))
        self.assertEqual(insert(TREE, 4, put), Patch(13, ((4, 4, put),)))

    def test_nothing(self):
        for gap in range(14):
            self.assertEqual(insert(TREE, gap, ()), Patch(13))

    def test_bad_tokens(self):
        for value in (None, [A], A[0], {}, 1, ""):
            self.assertError(BadToken, {"index": None}, insert, TREE, 3, value)
        for value in STRANGE + (None, (), list(A), ("char", "ab", (), None)):
            self.assertError(BadToken, {"index": 0}, insert, TREE, 3, (value,))
            self.assertError(BadToken, {"index": 2}, insert, TREE, 3, (A, A, value, value))
        self.assertError(BadToken, {"index": 0}, insert, TREE, 3, A)

    def test_results_that_are_no_chapter(self):
        self.assertError(BadChapter, {"index": 0}, insert, TREE, 0, (A,))
        self.assertError(BadChapter, {"index": 3}, insert, TREE, 3, line("a"))
        self.assertError(BadChapter, {"index": 1}, insert, TREE, 1, line("a"))
        self.assertError(BadChapter, {"index": 15}, insert, TREE, 13, (op("section"), op("list")))
        self.assertError(BadChapter, {"index": 1999}, insert, FULL, 5, (A,))
        self.assertError(BadChapter, {"index": 2000}, insert, FULL, 2000, line(""))
        self.assertError(BadChapter, {"index": 12}, insert, TWELVE, 11, (op("quote"), op("para"), cl("para"), cl("quote")))
        self.assertEqual(len(insert(FULL[:1] + FULL[2:], 5, (A,))(FULL[:1] + FULL[2:])), 2000)


class Delete(Case):
    def test_children(self):
        self.assertEqual(delete(TREE, 0, 1), Patch(13, ((0, 10, ()),)))
        self.assertEqual(delete(TREE, 0, 2), Patch(13, ((0, 13, ()),)))
        self.assertEqual(delete(TREE, 3, 2), Patch(13, ((3, 5, ()),)))
        self.assertEqual(delete(TREE, 2, 1), Patch(13, ((2, 6, ()),)))
        self.assertEqual(delete(chapter=TREE, gap=6, count=1), Patch(13, ((6, 8, ()),)))

    def test_nothing(self):
        for gap in range(14):
            self.assertEqual(delete(TREE, gap, 0), Patch(13))

    def test_too_few_children(self):
        chance = random.Random(30)
        for _ in range(100):
            chapter = random_chapter(chance)
            for gap in range(len(chapter) + 1):
                ends = children(chapter, gap)
                for count, end in enumerate(ends):
                    pieces = ((gap, end, ()),) if end > gap else ()
                    self.assertEqual(delete(chapter, gap, count), Patch(len(chapter), pieces))
                self.assertError(NoNode, {"gap": gap}, delete, chapter, gap, len(ends))
                self.assertError(NoNode, {"gap": gap}, delete, chapter, gap, len(ends) + 10**8)

    def test_bad_counts(self):
        for count in STRANGE + (None,):
            self.assertError(BadNumber, {"name": "count"}, delete, TREE, 13, count)
        self.assertError(BadNumber, {"name": "gap"}, delete, TREE, 14, -1)


class Split(Case):
    def test_a_line(self):
        self.assertEqual(split(TREE, 4), Patch(13, ((4, 4, (cl("para"), op("para"))),)))
        self.assertEqual(split(TREE, 3), Patch(13, ((3, 3, (cl("para"), op("para"))),)))
        self.assertEqual(split(TREE, 5), Patch(13, ((5, 5, (cl("para"), op("para"))),)))
        self.assertEqual(split(TREE, 11)(TREE), TREE[:10] + line("", "head1") + line("c", "head1"))

    def test_a_box(self):
        made = split(TREE, 6)
        self.assertEqual(made, Patch(13, ((6, 6, (cl("item"), op("item"))),)))
        self.assertEqual(made(TREE)[:6], node("list", *node("item", *line("ab")))[:6])

    def test_another_kind(self):
        made = split(TREE, 4, kind="head2")
        self.assertEqual(made, Patch(13, ((4, 4, (cl("para"), op("head2"))),), ((5, "kind", "head2"),)))
        self.assertEqual(made(TREE)[2:9], joined(line("a"), line("b", "head2"), (op("quote"),)))
        made = split(TREE, 7, kind="section")
        self.assertEqual(made, Patch(13, ((7, 7, (cl("quote"), op("section"))),), ((7, "kind", "section"),)))
        self.assertEqual(made(TREE)[6:10], joined(node("quote"), node("section")))

    def test_the_same_kind(self):
        self.assertEqual(split(TREE, 4, kind="para"), split(TREE, 4))
        self.assertEqual(split(TREE, 4, kind=None), split(TREE, 4))

    def test_several_levels(self):
        made = split(TREE, 4, levels=2)
        self.assertEqual(made, Patch(13, ((4, 4, (cl("para"), cl("item"), op("item"), op("para"))),)))
        self.assertEqual(made(TREE)[:-3], node("list", *node("item", *line("a")), *node("item", *line("b"), *node("quote"))))
        made = split(chapter=TREE, gap=4, levels=3, kind="head3")
        put = (cl("para"), cl("item"), cl("list"), op("list"), op("item"), op("head3"))
        self.assertEqual(made, Patch(13, ((4, 4, put),), ((5, "kind", "head3"),)))
        self.assertEqual(
            made(TREE)[:-3],
            joined(node("list", *node("item", *line("a"))),
                   node("list", *node("item", *line("b", "head3"), *node("quote")))),
        )

    def test_levels_that_are_not_open(self):
        for gap, steps in enumerate(spots_of(TREE)):
            for levels in range(1, 6):
                if levels < len(steps):
                    self.assertEqual(len(split(TREE, gap, levels=levels).pieces[0][2]), 2 * levels)
                else:
                    self.assertError(NoNode, {"gap": gap}, split, TREE, gap, levels=levels)
                    self.assertError(NoNode, {"gap": gap}, split, TREE, gap, levels=levels, kind="none")
        self.assertError(NoNode, {"gap": 4}, split, TREE, 4, levels=10**8)
        self.assertError(NoNode, {"gap": 0}, split, (), 0)

    def test_bad_levels(self):
        for levels in STRANGE + (0, None):
            self.assertError(BadNumber, {"name": "levels"}, split, TREE, 4, levels=levels)
            self.assertError(BadNumber, {"name": "levels"}, split, TREE, 0, levels=levels, kind="none")
            self.assertError(BadNumber, {"name": "gap"}, split, TREE, -1, levels=levels)
        with self.assertRaises(TypeError):
            split(TREE, 4, None)

    def test_bad_kinds(self):
        for kind in BOXES + STRANGE + ("", "head4", ("para",)):
            self.assertError(BadKind, {"kind": kind}, split, TREE, 4, kind=kind)
            self.assertError(BadKind, {"kind": kind}, split, TREE, 4, kind=kind, levels=2)
        for kind in LINES + STRANGE + ("", "box"):
            self.assertError(BadKind, {"kind": kind}, split, TREE, 7, kind=kind)

    def test_results_that_are_no_chapter(self):
        self.assertError(BadChapter, {"index": 7}, split, TREE, 6, kind="quote")
        self.assertError(BadChapter, {"index": 8}, split, TREE, 7, kind="item")
        self.assertError(BadChapter, {"index": 1999}, split, FULL, 5)
        self.assertError(BadChapter, {"index": 2}, split, node("quote", *line("a")), 1, kind="item")
        self.assertError(BadChapter, {"index": 3}, split, node("quote", *line("a")), 1, kind="list")

    def test_join_undoes_it(self):
        chance = random.Random(31)
        for _ in range(100):
            chapter = random_chapter(chance)
            for gap, steps in enumerate(spots_of(chapter)):
                if len(steps) > 1:
                    made = split(chapter, gap)(chapter)
                    self.assertEqual(join(made, gap + 1)(made), chapter)


class Join(Case):
    def test_lines(self):
        chapter = line("ab") + line("c")
        self.assertEqual(join(chapter, 4), Patch(7, ((3, 5, ()),)))
        self.assertEqual(join(chapter=chapter, gap=4)(chapter), line("abc"))

    def test_lines_of_unlike_kinds(self):
        chapter = line("ab", "head1") + line("c")
        self.assertEqual(join(chapter, 4), Patch(7, ((3, 5, ()),), ((6, "kind", "head1"),)))
        self.assertEqual(join(chapter, 4)(chapter), line("abc", "head1"))

    def test_boxes_of_unlike_kinds(self):
        chapter = node("quote", *line("a")) + node("section", *node("section"), *line("b"))
        self.assertEqual(join(chapter, 5), Patch(12, ((4, 6, ()),), ((11, "kind", "quote"),)))
        self.assertEqual(join(chapter, 5)(chapter), node("quote", *line("a"), *node("section"), *line("b")))

    def test_empty_nodes(self):
        self.assertEqual(join(line("") + line("", "head3"), 2), Patch(4, ((1, 3, ()),), ((3, "kind", "para"),)))

    def test_no_nodes(self):
        chapter = joined(line("ab"), node("list", *node("item"), *node("item")), line("c"), line("d"))
        fine = []
        for gap in range(len(chapter) + 1):
            if gap in (7, 13):
                fine.append(join(chapter, gap))
            else:
                self.assertError(NoNode, {"gap": gap}, join, chapter, gap)
        self.assertEqual([patch.pieces for patch in fine], [((6, 8, ()),), ((12, 14, ()),)])
        self.assertError(NoNode, {"gap": 0}, join, (), 0)
        self.assertError(NoNode, {"gap": 3}, join, line("a") + node("list"), 3)
        self.assertError(NoNode, {"gap": 2}, join, node("list") + line("a"), 2)

    def test_results_that_are_no_chapter(self):
        self.assertError(BadChapter, {"index": 1}, join, node("list") + node("quote", *line("a")), 2)
        self.assertError(BadChapter, {"index": 1}, join, node("quote") + node("list", *node("item")), 2)
        self.assertEqual(join(node("quote") + node("list"), 2)(node("quote") + node("list")), node("quote"))


class Wrap(Case):
    def test_children(self):
        self.assertEqual(wrap(TREE, 0, 2, "section"),
                         Patch(13, ((0, 0, (op("section"),)), (13, 13, (cl("section"),)))))
        made = wrap(chapter=TREE, gap=2, count=1, kind="quote")
        self.assertEqual(made, Patch(13, ((2, 2, (op("quote"),)), (6, 6, (cl("quote"),)))))
        self.assertEqual(made(TREE)[2:8], node("quote", *line("ab")))

    def test_no_children(self):
        self.assertEqual(wrap(TREE, 13, 0, "list"), Patch(13, ((13, 13, node("list")),)))
        self.assertEqual(wrap((), 0, 0, "quote"), Patch(0, ((0, 0, node("quote")),)))
        self.assertEqual(wrap(TREE, 1, 0, "item"), Patch(13, ((1, 1, node("item")),)))

    def test_bad_kinds(self):
        for kind in LINES + STRANGE + ("", "box", None):
            self.assertError(BadKind, {"kind": kind}, wrap, TREE, 0, 1, kind)
            self.assertError(BadKind, {"kind": kind}, wrap, TREE, 0, 3, kind)

    def test_bad_counts(self):
        for count in STRANGE + (None,):
            self.assertError(BadNumber, {"name": "count"}, wrap, TREE, 0, count, "para")
        self.assertError(BadNumber, {"name": "gap"}, wrap, TREE, -1, -1, "para")

    def test_too_few_children(self):
        for gap, count in ((0, 3), (13, 1), (3, 3), (7, 1), (1, 2), (0, 10**8)):
            self.assertError(NoNode, {"gap": gap}, wrap, TREE, gap, count, "section")

    def test_results_that_are_no_chapter(self):
        self.assertError(BadChapter, {"index": 3}, wrap, TREE, 3, 1, "quote")
        self.assertError(BadChapter, {"index": 3}, wrap, TREE, 3, 0, "quote")
        self.assertError(BadChapter, {"index": 1}, wrap, TREE, 1, 1, "quote")
        self.assertError(BadChapter, {"index": 1}, wrap, TREE, 0, 1, "list")
        self.assertError(BadChapter, {"index": 0}, wrap, TREE, 0, 1, "item")
        self.assertError(BadChapter, {"index": 12}, wrap, TWELVE, 3, 1, "quote")
        self.assertError(BadChapter, {"index": 1998}, wrap, FULL, 0, 1, "quote")

    def test_unwrap_undoes_it(self):
        chance = random.Random(32)
        for _ in range(100):
            chapter = random_chapter(chance)
            for gap in range(len(chapter) + 1):
                for count in range(len(children(chapter, gap))):
                    try:
                        made = wrap(chapter, gap, count, "section")(chapter)
                    except BadChapter:
                        continue
                    self.assertEqual(unwrap(made, gap)(made), chapter)


class Unwrap(Case):
    def test_boxes(self):
        chapter = node("section", *TREE)
        self.assertEqual(unwrap(chapter, 0), Patch(15, ((0, 1, ()), (14, 15, ()))))
        self.assertEqual(unwrap(chapter=chapter, gap=0)(chapter), TREE)

    def test_empty_boxes(self):
        self.assertEqual(unwrap(TREE, 6), Patch(13, ((6, 8, ()),)))
        self.assertEqual(unwrap(node("list"), 0)(node("list")), ())

    def test_no_boxes(self):
        for gap in range(14):
            if gap not in (0, 1, 6):
                self.assertError(NoNode, {"gap": gap}, unwrap, TREE, gap)
        self.assertError(NoNode, {"gap": 0}, unwrap, (), 0)

    def test_results_that_are_no_chapter(self):
        self.assertError(BadChapter, {"index": 0}, unwrap, TREE, 0)
        self.assertError(BadChapter, {"index": 1}, unwrap, TREE, 1)
        self.assertEqual(unwrap(node("list", *node("item")), 1)(node("list", *node("item"))), node("list"))


class Rename(Case):
    def test_nodes(self):
        self.assertEqual(rename(TREE, 2, "head3"), Patch(13, (), ((2, "kind", "head3"), (5, "kind", "head3"))))
        self.assertEqual(rename(TREE, 6, "list"), Patch(13, (), ((6, "kind", "list"), (7, "kind", "list"))))
        self.assertEqual(rename(chapter=TREE, gap=10, kind="para")(TREE), TREE[:10] + line("c"))

    def test_the_same_kind(self):
        self.assertEqual(rename(TREE, 2, "para"), Patch(13))
        self.assertEqual(rename(TREE, 0, "list"), Patch(13))

    def test_no_nodes(self):
        for gap in range(14):
            if gap not in (0, 1, 2, 6, 10):
                self.assertError(NoNode, {"gap": gap}, rename, TREE, gap, "none")
        self.assertError(NoNode, {"gap": 0}, rename, (), 0, "para")

    def test_bad_kinds(self):
        for gap, kinds in ((2, BOXES), (10, BOXES), (0, LINES), (6, LINES)):
            for kind in kinds + STRANGE + (None, "", ("para",)):
                self.assertError(BadKind, {"kind": kind}, rename, TREE, gap, kind)

    def test_results_that_are_no_chapter(self):
        self.assertError(BadChapter, {"index": 1}, rename, TREE, 0, "quote")
        self.assertError(BadChapter, {"index": 1}, rename, TREE, 1, "section")
        self.assertError(BadChapter, {"index": 6}, rename, TREE, 6, "item")


class Restyle(Case):
    CHAPTER = (op("para"), ch("a"), ch("b", "code", link="a#b"), an("x"), im("y"), ch("c", "slant", "strong"), cl("para"))

    def test_styles(self):
        self.assertEqual(restyle(self.CHAPTER, 0, 7, code=True), Patch(7, (), ((1, "code", True), (5, "code", True))))
        self.assertEqual(restyle(self.CHAPTER, 0, 7, code=False), Patch(7, (), ((2, "code", False),)))
        self.assertEqual(
            restyle(self.CHAPTER, 0, 7, strong=True, slant=False),
            Patch(7, (), ((1, "strong", True), (2, "strong", True), (5, "slant", False))),
        )

    def test_links(self):
        self.assertEqual(restyle(self.CHAPTER, 0, 7, link="a#b"), Patch(7, (), ((1, "link", "a#b"), (5, "link", "a#b"))))
        self.assertEqual(restyle(self.CHAPTER, 0, 7, link=None), Patch(7, (), ((2, "link", None),)))
        self.assertEqual(restyle(self.CHAPTER, 0, 7, link="out:x").changes[1], (2, "link", "out:x"))
        self.assertEqual(restyle(self.CHAPTER, 0, 7, link="same"), Patch(7))

    def test_order_of_changes(self):
        made = restyle(self.CHAPTER, 1, 3, strong=True, link="out:x", code=True, slant=True)
        self.assertEqual(made.changes, (
            (1, "code", True), (1, "link", "out:x"), (1, "slant", True), (1, "strong", True),
            (2, "link", "out:x"), (2, "slant", True), (2, "strong", True),
        ))
        self.assertEqual(made(self.CHAPTER)[1], ch("a", "code", "slant", "strong", link="out:x"))

    def test_bounds(self):
        self.assertEqual(restyle(self.CHAPTER, 1, 1, code=True), Patch(7))
        self.assertEqual(restyle(self.CHAPTER, 1, 2, code=True), Patch(7, (), ((1, "code", True),)))
        self.assertEqual(restyle(self.CHAPTER, 2, 5, code=True), Patch(7))
        self.assertEqual(restyle(chapter=self.CHAPTER, start=5, end=7, code=True), Patch(7, (), ((5, "code", True),)))
        self.assertEqual(restyle(self.CHAPTER, 0, 7), Patch(7))
        self.assertEqual(restyle((), 0, 0, code=True), Patch(0))

    def test_bad_bounds(self):
        for value in STRANGE + (8, None):
            self.assertError(BadNumber, {"name": "start"}, restyle, self.CHAPTER, value, value, bold=1)
            self.assertError(BadNumber, {"name": "end"}, restyle, self.CHAPTER, 2, value, bold=1)
        self.assertError(BadNumber, {"name": "end"}, restyle, self.CHAPTER, 3, 2, bold=1, link=0)

    def test_bad_styles(self):
        for value in (1, 0, None, "yes", [], "True"):
            self.assertError(BadStyle, {"word": "code"}, restyle, self.CHAPTER, 0, 7, code=value, link=0)
        self.assertError(BadStyle, {"word": "bold"}, restyle, self.CHAPTER, 0, 7, bold=True)
        self.assertError(BadStyle, {"word": "kind"}, restyle, self.CHAPTER, 0, 7, kind="para")
        self.assertError(BadStyle, {"word": "slant"}, restyle, self.CHAPTER, 0, 7, zero=True, slant=1, code=True)
        self.assertError(BadStyle, {"word": "Zero"}, restyle, self.CHAPTER, 0, 7, code=1, Zero=True)
        self.assertError(BadStyle, {"word": "code"}, restyle, self.CHAPTER, 0, 7, strong=1, code=0)
        self.assertError(BadStyle, {"word": "code"}, restyle, (), 0, 0, code=1)

    def test_bad_links(self):
        for link in ("", "a", "#", "out:", "Same", 0, True, False, [], ("a#b",), object()):
            self.assertError(BadLink, {"link": link}, restyle, self.CHAPTER, 0, 0, link=link, code=True)
        with self.assertRaises(TypeError):
            restyle(self.CHAPTER, 0, 7, "a#b")

    def test_only_chars_and_only_what_differs(self):
        chance = random.Random(33)
        for _ in range(200):
            chapter = random_chapter(chance, 5)
            start = chance.randint(0, len(chapter))
            end = chance.randint(start, len(chapter))
            styles = {word: chance.choice((True, False)) for word in ("code", "slant", "strong") if chance.random() < 0.5}
            link = chance.choice(("same", None, "a#b"))
            patch = restyle(chapter, start, end, link=link, **styles)
            made = patch(chapter)
            for index, (token, new) in enumerate(zip(chapter, made)):
                if start <= index < end and token[0] == "char":
                    words = {word for word in ("code", "slant", "strong") if styles.get(word, word in token[2])}
                    token = ("char", token[1], tuple(sorted(words)), token[3] if link == "same" else link)
                self.assertEqual(new, token)
            undo = patch.undo(chapter)
            self.assertEqual(len(undo.changes), len(patch.changes))
            self.assertEqual(patch.pieces, ())


class Results(Case):
    def test_every_patch_makes_a_chapter_and_is_undone(self):
        chance = random.Random(34)
        for _ in range(300):
            chapter = random_chapter(chance)
            gap = chance.randint(0, len(chapter))
            kind = chance.choice(BOXES + LINES)
            for edit, more in ((insert, ((random_token(chance),),)), (delete, (1,)), (split, ()), (join, ()),
                               (wrap, (chance.randint(0, 2), kind)), (unwrap, ()), (rename, (kind,))):
                try:
                    patch = edit(chapter, gap, *more)
                except (BadChapter, BadKind, NoNode):
                    continue
                made = patch(chapter)
                self.assertEqual(patch.undo(chapter)(made), chapter)
