"""Branches: the grid of their merge, what follows what, and where they clash."""

import random

from bookpack.branches import Merged, merge
from bookpack.edits import delete, insert, join, rename, restyle, split, unwrap, wrap
from bookpack.errors import BadBranch, BadChapter, BadNumber, BookError, Clash, Conflict
from bookpack.patches import Patch
from tests.making import BOXES, EXAMPLE, LINES, STRANGE, Case, an, ch, cl, line, node, op, random_chapter, random_glyph

A, B, C, S, T, U = [ch(c) for c in "abcstu"]


def random_edit(chance, chapter):
    """A random patch that makes a chapter of another one."""
    while True:
        gap = chance.randint(0, len(chapter))
        try:
            edit = chance.choice(("insert", "insert", "line", "delete", "split", "join", "wrap", "unwrap", "rename", "restyle"))
            if edit == "insert":
                return insert(chapter, gap, (random_glyph(chance),))
            if edit == "line":
                return insert(chapter, gap, line("n"))
            if edit == "delete":
                return delete(chapter, gap, 1)
            if edit == "split":
                return split(chapter, gap, kind=chance.choice((None, "para", "head1")))
            if edit == "join":
                return join(chapter, gap)
            if edit == "wrap":
                return wrap(chapter, gap, chance.randint(0, 2), chance.choice(BOXES))
            if edit == "unwrap":
                return unwrap(chapter, gap)
            if edit == "rename":
                return rename(chapter, gap, chance.choice(BOXES + LINES))
            return restyle(chapter, 0, gap, code=chance.choice((True, False)), link=chance.choice(("same", "a#b")))
        except BookError:
            continue


def random_branch(chance, chapter, most):
    patches = []
    for _ in range(chance.randint(0, most)):
        patches.append(random_edit(chance, chapter))
        chapter = patches[-1](chapter)
    return tuple(patches)


def behind(chapter, patches):
    for patch in patches:
        chapter = patch(chapter)
    return chapter


def grid(chapter, ours, theirs):
    """All cells, column by column: the first clash by rows, the chapters, and the patches at the edges."""
    chapters = {(0, 0): chapter}
    downs, rights = {}, {}
    for i, patch in enumerate(ours):
        downs[i, 0] = patch
        chapters[i + 1, 0] = patch(chapters[i, 0])
    clashes = []
    for j, patch in enumerate(theirs):
        rights[0, j] = patch
        chapters[0, j + 1] = patch(chapters[0, j])
    for j in range(len(theirs)):
        for i in range(len(ours)):
            if (i, j) not in downs or (i, j) not in rights:
                continue
            try:
                down = downs[i, j].rebase(rights[i, j], first=True)
                right = rights[i, j].rebase(downs[i, j])
                one, other = down(chapters[i, j + 1]), right(chapters[i + 1, j])
            except Conflict as error:
                clashes.append((i, j, error.place))
                continue
            except BadChapter:
                clashes.append((i, j, None))
                continue
            assert one == other
            downs[i, j + 1], rights[i + 1, j], chapters[i + 1, j + 1] = down, right, one
    return clashes, chapters, downs, rights


class Results(Case):
    def test_no_patches(self):
        made = merge(EXAMPLE, (), ())
        self.assertIsInstance(made, Merged)
        self.assertEqual((made.result, made.ours, made.theirs), (EXAMPLE, (), ()))

    def test_one_branch_without_patches(self):
        branch = (Patch(6, ((2, 2, (A,)),)), Patch(7, ((1, 2, ()),)))
        result = behind(EXAMPLE, branch)
        made = merge(EXAMPLE, branch, ())
        self.assertEqual((made.result, made.ours, made.theirs), (result, branch, ()))
        made = merge(chapter=EXAMPLE, ours=(), theirs=branch)
        self.assertEqual((made.result, made.ours, made.theirs), (result, (), branch))

    def test_documents_first_example(self):
        chapter = line("abc")
        ours = (Patch(5, ((1, 2, ()), (3, 4, ()))),)
        made = merge(chapter, ours, (Patch(5, ((2, 3, (U,)),)),))
        self.assertEqual(made.result, line("u"))
        theirs = (Patch(5, ((2, 3, ()),)), Patch(4, ((2, 2, (U,)),)))
        self.assertError(Clash, {"first": 0, "second": 1, "place": 2}, merge, chapter, ours, theirs)
        self.assertError(Clash, {"first": 1, "second": 0, "place": 2}, merge, chapter, theirs, ours)

    def test_documents_second_example(self):
        chapter = line("a")
        theirs = (Patch(3, ((1, 1, (U,)),)),)
        ours = (Patch(3, ((1, 2, (T,)),)), Patch(3, ((1, 1, (S,)),)))
        self.assertEqual(merge(chapter, ours, theirs).result, line("sut"))
        self.assertEqual(merge(chapter, (Patch(3, ((1, 2, (S, T)),)),), theirs).result, line("ust"))

    def test_ours_come_first(self):
        chapter = line("a")
        one, other = (Patch(3, ((1, 1, (S,)),)),), (Patch(3, ((1, 1, (T,)),)),)
        self.assertEqual(merge(chapter, one, other).result, line("sta"))
        self.assertEqual(merge(chapter, other, one).result, line("tsa"))

    def test_both_follow_the_other(self):
        chapter = line("abc")
        ours = (Patch(5, ((1, 1, (S, S)),)), Patch(7, ((5, 6, ()),)))
        theirs = (Patch(5, ((4, 4, (U,)),)), Patch(6, ((2, 3, (T,)),)))
        made = merge(chapter, ours, theirs)
        self.assertEqual(made.result, line("ssatu"))
        self.assertEqual(made.ours, (Patch(6, ((1, 1, (S, S)),)), Patch(8, ((5, 6, ()),))))
        self.assertEqual(made.theirs, (Patch(6, ((5, 5, (U,)),)), Patch(7, ((4, 5, (T,)),))))

    def test_the_same_change_on_both_sides(self):
        chapter = line("a")
        change = Patch(3, (), ((1, "code", True),))
        made = merge(chapter, (change,), (change,))
        self.assertEqual((made.result, made.ours, made.theirs), (node("para", ch("a", "code")), (Patch(3),), (Patch(3),)))

    def test_what_was_passed_in_stays(self):
        chapter, ours, theirs = line("abc"), (Patch(5, ((1, 1, (S,)),)),), (Patch(5, ((3, 4, ()),)),)
        made = merge(chapter, ours, theirs)
        self.assertEqual((chapter, ours, theirs), (line("abc"), (Patch(5, ((1, 1, (S,)),)),), (Patch(5, ((3, 4, ()),)),)))
        self.assertEqual([type(made.ours), type(made.theirs)], [tuple, tuple])

    def test_against_the_whole_grid(self):
        chance = random.Random(45)
        merged = clashed = 0
        while merged < 250 or clashed < 80:
            chapter = random_chapter(chance)
            ours, theirs = random_branch(chance, chapter, 4), random_branch(chance, chapter, 4)
            clashes, chapters, downs, rights = grid(chapter, ours, theirs)
            if clashes:
                clashed += 1
                first, second, place = min(clashes, key=lambda clash: clash[:2])
                self.assertError(Clash, {"first": first, "second": second, "place": place}, merge, chapter, ours, theirs)
                continue
            merged += 1
            made = merge(chapter, ours, theirs)
            self.assertEqual(made.result, chapters[len(ours), len(theirs)])
            self.assertEqual(made.ours, tuple(downs[i, len(theirs)] for i in range(len(ours))))
            self.assertEqual(made.theirs, tuple(rights[len(ours), j] for j in range(len(theirs))))
            self.check_ends(made, behind(chapter, ours), behind(chapter, theirs))
            self.check_ways(chance, (len(ours), len(theirs)), chapters, downs, rights)

    def check_ends(self, made, one, other):
        self.assertEqual(behind(one, made.theirs), made.result)
        self.assertEqual(behind(other, made.ours), made.result)
        for side, chapter, patches in ((0, one, made.theirs), (1, other, made.ours)):
            for after in (False, True):
                for gap in range(len(chapter) + 1):
                    place = gap
                    for patch in patches:
                        place = patch.carry(place, after=after)
                    self.assertEqual(made.carry(side, gap, after=after), place)
                    self.assertEqual(made.carry(side=side, gap=gap, after=after), place)
            self.assertEqual([made.carry(side, gap) for gap in range(len(chapter) + 1)],
                             [made.carry(side, gap, False) for gap in range(len(chapter) + 1)])
            for gap in STRANGE + (len(chapter) + 1, None):
                self.assertError(BadNumber, {"name": "gap"}, made.carry, side, gap)

    def check_ways(self, chance, ends, chapters, downs, rights):
        for _ in range(3):
            i = j = 0
            chapter = chapters[0, 0]
            while (i, j) != ends:
                if j == ends[1] or i < ends[0] and chance.random() < 0.5:
                    chapter = downs[i, j](chapter)
                    i += 1
                else:
                    chapter = rights[i, j](chapter)
                    j += 1
                self.assertEqual(chapter, chapters[i, j])


class Carrying(Case):
    def test_sides(self):
        made = merge(line("ab"), (Patch(4, ((1, 1, (S, S)),)),), (Patch(4, ((2, 3, ()),)),))
        self.assertEqual(made.result, line("ssa"))
        self.assertEqual([made.carry(0, gap) for gap in range(7)], [0, 1, 2, 3, 4, 4, 5])
        self.assertEqual([made.carry(1, gap) for gap in range(4)], [0, 1, 4, 5])
        self.assertEqual([made.carry(1, gap, after=True) for gap in range(4)], [0, 3, 4, 5])

    def test_bad_numbers(self):
        made = merge(EXAMPLE, (), ())
        for side in STRANGE + (2, None):
            self.assertError(BadNumber, {"name": "side"}, made.carry, side, -1)
        for gap in STRANGE + (7, None):
            for side in (0, 1):
                self.assertError(BadNumber, {"name": "gap"}, made.carry, side, gap)
        self.assertEqual([made.carry(side, 6) for side in (0, 1)], [6, 6])
        self.assertError(BadNumber, {"name": "gap"}, merge(EXAMPLE, (Patch(6, ((2, 3, ()),)),), ()).carry, 0, 6)
        self.assertEqual(merge(EXAMPLE, (Patch(6, ((2, 3, ()),)),), ()).carry(1, 6), 5)


class BadBranches(Case):
    GOOD = (Patch(6, ((2, 3, ()),)), Patch(5, ((1, 2, ()),)))

    def test_no_chapter_comes_first(self):
        for value, index in ((None, -1), (list(EXAMPLE), -1), (EXAMPLE[:2], 2)):
            self.assertError(BadChapter, {"index": index}, merge, value, None, None)

    def test_no_tuples(self):
        for value in (None, [], list(self.GOOD), self.GOOD[0], {}, 1):
            self.assertError(BadBranch, {"side": 0, "number": None}, merge, EXAMPLE, value, value)
            self.assertError(BadBranch, {"side": 1, "number": None}, merge, EXAMPLE, self.GOOD, value)

    def test_bad_elements(self):
        bad = (None, 1, (), (6, (), ()), EXAMPLE, Patch(6, ((2, 3, ()),)), Patch(4, (), ((0, "code", True),)),
               Patch(4, ((0, 1, ()),)), Patch(4, ((1, 1, (op("para"),)),)))
        for thing in bad:
            branch = self.GOOD + (thing, None)
            self.assertError(BadBranch, {"side": 0, "number": 2}, merge, EXAMPLE, branch, (None,))
            self.assertError(BadBranch, {"side": 0, "number": 2}, merge, EXAMPLE, branch, None)
            self.assertError(BadBranch, {"side": 1, "number": 2}, merge, EXAMPLE, self.GOOD, branch)
        self.assertError(BadBranch, {"side": 0, "number": 0}, merge, EXAMPLE, self.GOOD[1:], ())
        self.assertError(BadBranch, {"side": 0, "number": 1}, merge, EXAMPLE, self.GOOD[:1] * 2, ())

    def test_before_clashes(self):
        one = Patch(6, ((2, 3, ()),))
        self.assertError(Clash, {"first": 0, "second": 0, "place": 2}, merge, EXAMPLE, (one,), (one,))
        self.assertError(BadBranch, {"side": 1, "number": 1}, merge, EXAMPLE, (one,), (one, one))


class Clashes(Case):
    def test_the_first_cell_by_rows(self):
        chapter = line("abc")
        ours = (Patch(5, ((3, 4, ()),)), Patch(4, ((1, 2, ()),)))
        theirs = (Patch(5, ((1, 2, ()),)), Patch(4, ((2, 3, ()),)))
        self.assertError(Clash, {"first": 0, "second": 1, "place": 2}, merge, chapter, ours, theirs)
        self.assertError(Clash, {"first": 1, "second": 0, "place": 1}, merge, chapter, ours, theirs[:1])

    def test_the_place_is_in_the_chapter_of_the_cell(self):
        chapter = line("abc")
        ours = (Patch(5, ((0, 0, line("xy")),)), Patch(9, ((6, 7, ()),)))
        theirs = (Patch(5, ((1, 1, (S, S)),)), Patch(7, (), ((4, "code", True),)))
        self.assertError(Clash, {"first": 1, "second": 1, "place": 8}, merge, chapter, ours, theirs)

    def test_no_chapter(self):
        chapter = node("list", *node("item"))
        ours = (Patch(4, ((1, 3, ()),), ((0, "kind", "section"), (3, "kind", "section"))),)
        theirs = (insert(chapter, 1, node("item")),)
        self.assertError(Clash, {"first": 0, "second": 0, "place": None}, merge, chapter, ours, theirs)
        self.assertError(Clash, {"first": 0, "second": 0, "place": None}, merge, chapter, theirs, ours)

    def test_too_many_open_nodes(self):
        chapter = line("")
        deep = tuple(op("quote") for _ in range(11)), tuple(cl("quote") for _ in range(11))
        theirs = (Patch(2, ((0, 0, deep[0]), (2, 2, deep[1]))),)
        made = merge(chapter, (insert(chapter, 0, line("")),), theirs)
        self.assertEqual(made.result, line("") + deep[0] + line("") + deep[1])
        ours = (Patch(2, ((0, 0, (op("section"),)), (2, 2, (cl("section"),)))),)
        self.assertError(Clash, {"first": 0, "second": 0, "place": None}, merge, chapter, ours, theirs)

    def test_too_long(self):
        chapter = line("a" * 1000)
        ours = (insert(chapter, 1, (A,)), insert(line("a" * 1001), 1, (A,) * 498))
        theirs = (insert(chapter, 1001, (B,) * 499),)
        self.assertEqual(len(merge(chapter, ours, theirs).result), 2000)
        theirs = (insert(chapter, 1001, (B,) * 500),)
        self.assertError(Clash, {"first": 1, "second": 0, "place": None}, merge, chapter, ours, theirs)
        self.assertEqual(merge(chapter, ours[:1], theirs).result, line("a" * 1001 + "b" * 500))

    def test_changes(self):
        chapter = line("a")
        ours = (Patch(3, (), ((1, "code", True),)),)
        self.assertError(Clash, {"first": 0, "second": 0, "place": 1}, merge, chapter, ours,
                         (Patch(3, (), ((1, "code", False),)),))
        self.assertError(Clash, {"first": 0, "second": 0, "place": 1}, merge, chapter, ours, (Patch(3, ((1, 2, ()),)),))
        made = merge(chapter, ours, (Patch(3, ((2, 2, (an("x"),)),), ((1, "link", "a#b"),)),))
        self.assertEqual(made.result, node("para", ch("a", "code", link="a#b"), an("x")))
