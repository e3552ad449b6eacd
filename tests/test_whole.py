"""The whole program: each example of the document, and its later parts on what its earlier ones return."""

import random
import unittest

from bookpack.archives import faults, read_archive, write_archive
from bookpack.arranging import join_chapters, rename, reorder, split_chapter
from bookpack.books import Book, locate, locator, readable
from bookpack.branches import merge
from bookpack.chapters import first_bad
from bookpack.defects import defects, is_sound
from bookpack.differences import cost, difference, heights, least_cost, shows_least
from bookpack.drafts import Draft, merge_steps
from bookpack.edits import delete, insert, restyle, split, wrap
from bookpack.errors import BookError, Clash
from bookpack.judging import judge, recover
from bookpack.manifests import read_manifest, write_manifest
from bookpack.markup import read_chapter, write_chapter
from bookpack.moves import Move, moving
from bookpack.outlines import outline, outlined
from bookpack.packing import read_book, write_book
from bookpack.patches import Patch
from bookpack.pruning import extract, without
from bookpack.salvaging import remains, salvage, shows_most
from bookpack.spots import Spot, gap_at, spot_at
from bookpack.updates import apply_update, judge_update, make_update, read_patch, write_patch
from tests import raw
from tests.making import EXAMPLE, FIELDS, Case, an, book_of, ch, im, joined, line, node, random_book

ABC = line("abc")


class Examples(Case):
    def test_the_chapter_and_its_spots(self):
        self.assertEqual(EXAMPLE, (("open", "head1"), ("anchor", "top"), ("char", "A", (), None), ("close", "head1"),
                                   ("open", "list"), ("close", "list")))
        self.assertIsNone(first_bad(EXAMPLE))
        texts = ["0", "0.0", "0.1", "0.2", "1", "1.0", "2"]
        self.assertEqual([spot_at(EXAMPLE, gap).text() for gap in range(7)], texts)
        self.assertEqual([gap_at(EXAMPLE, Spot.read(text)) for text in texts], list(range(7)))

    def test_patches_over_a_line(self):
        one, other = Patch(5, ((1, 2, ()), (3, 4, ()))), Patch(5, ((2, 3, ()),))
        self.assertEqual(len(one.rebase(other).pieces), 1)
        self.assertEqual(one.rebase(other)(other(ABC)), line(""))
        one, other = Patch(5, ((1, 2, ()),)), Patch(5, ((2, 2, (("anchor", "n"),)),))
        self.assertEqual((one.carry(4), one.rebase(other).pieces, other.rebase(one).pieces[0][:2]), (3, ((1, 2, ()),), (1, 1)))

    def test_branches(self):
        ours = Patch(5, ((1, 2, ()), (3, 4, ())))
        at_once = Patch(5, ((2, 3, (ch("u"),)),))
        in_turn = (Patch(5, ((2, 3, ()),)), Patch(4, ((2, 2, (ch("u"),)),)))
        self.assertEqual(merge(ABC, (ours,), (at_once,)).result, line("u"))
        self.assertError(Clash, {"first": 0, "second": 1, "place": 2}, merge, ABC, (ours,), in_turn)
        before = Patch(5, ((2, 2, (ch("u"),)),))
        replaced = (Patch(5, ((2, 3, (ch("t"),)),)), Patch(5, ((2, 2, (ch("s"),)),)))
        self.assertEqual(merge(ABC, replaced, (before,)).result, line("asutc"))
        self.assertEqual(merge(ABC, (Patch(5, ((2, 3, (ch("s"), ch("t"))),)),), (before,)).result, line("austc"))

    def test_the_slot_of_a_figure(self):
        book = book_of({"a": ABC, "b": ABC}, slots=(("f", True), ("b", False)), f=("figure", "", "a"))
        self.assertEqual(without(book, ("f",)).book.plain[2], (("a", True), ("b", False)))

    def test_a_paragraph_that_is_wrapped(self):
        book = book_of({"a": line("x")})
        ours = Draft(book)
        ours.do("a", wrap(line("x"), 0, 1, "quote"))
        theirs = Draft(book)
        theirs.do("a", insert(line("x"), 0, line("y")))
        made = merge_steps(book, ours.log, theirs.log)
        self.assertEqual(made.chapter("a"), node("quote", *line("y"), *line("x")))

    def test_archives(self):
        data = write_archive((("a", (65, 66)), ("b", ())))
        self.assertEqual((len(data), faults(data), faults(data[:13] + (67,) + data[14:])), (68, [], [("bad entry", 0), ("gap", 0)]))

    def test_markup(self):
        chapter = (("open", "para"), ("char", "<", ("strong",), None), ("char", "b", (), "out:x"), ("close", "para"))
        self.assertEqual(write_chapter(chapter), "<para><=strong>&l;<= out:x>b</para>\n")


class Journey(Case):
    """A book that is split, joined, edited in a draft, merged, packed, damaged, recovered and updated."""

    def book(self):
        first = joined(
            node("head1", an("top"), ch("A")), node("para", ch("s", link="one#end"), im("fig"), ch("e", link="two#x")),
            node("head1", an("mid"), ch("B")), node("para", ch("<", "code"), ch("t", link="one#top"), an("end")),
        )
        second = node("para", an("x"), ch("z", link="one#mid"), ch("o", link="out:web"))
        return Book(
            fields=FIELDS,
            items=(("one", "chapter", first, None), ("two", "chapter", second, None), ("fig", "figure", "a & b", "two")),
            slots=(("one", True), ("two", True)),
            contents=((0, "A", "one#top"), (1, "B", "one#mid"), (0, "X", "two#x")),
        )

    def packed(self, book):
        """Check that a book is the same once it was packed, and return its archive."""
        data = write_book(book)
        self.assertEqual(read_book(data), book)
        self.assertEqual(judge(data), defects(book))
        fields, heads, slots, contents = read_manifest(write_manifest(book))
        self.assertEqual((fields, slots, contents), (book.plain[0], book.plain[2], book.plain[3]))
        for key, kind, content, _ in book.plain[1]:
            if kind == "chapter":
                self.assertEqual(read_chapter(write_chapter(content)), content)
        return data

    def test_from_end_to_end(self):
        book = self.book()
        self.assertTrue(is_sound(book))
        parts = split_chapter(book, "one").book
        self.assertEqual([slot[0] for slot in parts.plain[2]], ["one", "one2", "two"])
        self.packed(parts)
        self.assertEqual(join_chapters(parts, "one", "one2").book, book)
        turned = reorder(parts, ("two", "one", "one2")).book
        named = rename(turned, (("one", "two"), ("two", "one"))).book
        self.assertEqual(rename(named, (("one", "two"), ("two", "one"))).book, turned)
        self.packed(outlined(named).book)
        self.assertEqual([entry[2] for entry in outline(named)], ["two#top", "one2#mid"])

        draft = Draft(parts)
        draft.keep("spot", "one2", 1)
        draft.do("one2", insert(parts.chapter("one2"), 2, (ch("!"),)))
        draft.do("one2", moving(draft.book.chapter("one2"), 0, 1, len(draft.book.chapter("one2"))))
        draft.together(lambda same: same.do("two", restyle(same.book.chapter("two"), 0, 4, strong=True)))
        self.assertEqual(draft.steps, 3)
        self.assertEqual(locate(draft.book, locator(draft.book, *draft.where("spot"))), draft.where("spot"))
        other = Draft(parts)
        other.do("one", split(parts.chapter("one"), 2, kind="head2"))
        other.do("two", delete(parts.chapter("two"), 1, 0))
        merged = merge_steps(parts, draft.log, other.log)
        self.assertEqual(merged, merge_steps(parts, other.log, draft.log))
        data = self.packed(merged)
        self.assertEqual(defects(merged), [])

        update = make_update(book, merged)
        self.assertEqual(judge_update(book, update), [])
        self.assertEqual(apply_update(book, update), merged)
        back = apply_update(merged, make_update(merged, book))
        self.assertEqual(back, book)

        hurt = self.hurt(data, "items/fig")
        found = recover(hurt)
        self.assertEqual((found.book, found.lost), (without(merged, ("fig",)).book, ("fig",)))
        self.assertEqual(recover(hurt, self.hurt(data, "chapters/one")).book, merged)
        kept = extract(found.book, ("one",)).book
        self.packed(kept)
        self.assertEqual(readable(kept, "one", "chapter"), "one")

    def hurt(self, data, wanted):
        for offset, name, _ in salvage(data):
            if name == wanted:
                return data[:offset] + (0,) + data[offset + 1:]
        raise AssertionError(wanted)

    def test_patches_from_all_parts_have_texts(self):
        chapter = self.book().chapter("one")
        move = Move(len(chapter), 0, 4, len(chapter))
        other = move(chapter)
        for patch in (move.patch(chapter), difference(chapter, other), insert(chapter, 0, line("q")), Patch(0),
                      restyle(chapter, 0, len(chapter), code=True, link=None), move.patch(chapter).undo(chapter),
                      insert(chapter, 0, line("q")).then(Patch(len(chapter) + 3, ((0, 3, ()),)))):
            self.assertEqual(read_patch(write_patch(patch)), patch)
        table = heights(chapter, other)
        patch = read_patch(write_patch(difference(chapter, other)))
        self.assertIs(shows_least(chapter, other, patch, table), True)
        self.assertEqual(cost(patch), least_cost(chapter, other))

    def test_archives_within_archives(self):
        data = write_book(self.book())
        outer = write_archive((("one", data), ("two", make_update(self.book(), Book()))))
        self.assertEqual(read_book(read_archive(outer)[0][1]), self.book())
        self.assertEqual([name for _, name, _ in salvage(outer)], ["one", "two"])
        self.assertIs(shows_most(outer, tuple(row[0] for row in salvage(outer)), remains(outer)), True)

    def test_random_books(self):
        for seed in range(60):
            chance = random.Random(seed)
            book = random_book(chance)
            now = book
            for _ in range(4):
                try:
                    now = self.turned(chance, now)
                except BookError:
                    continue
                self.packed(now)
                self.assertTrue(is_sound(now))
            self.assertEqual(apply_update(book, make_update(book, now)), now)
            data = list(write_book(now))
            for _ in range(3):
                data[chance.randrange(len(data))] ^= 1
            try:
                found = recover(tuple(data))
            except BookError:
                continue
            self.assertTrue(is_sound(found.book))
            self.assertEqual(found.book, without(now, found.lost).book)

    def turned(self, chance, book):
        """A book that a random transformation makes."""
        ids = [item[0] for item in book.plain[1]]
        slots = [slot[0] for slot in book.plain[2]]
        way = chance.randrange(7)
        if way == 0:
            return split_chapter(book, chance.choice(ids), level=chance.randint(1, 3)).book
        if way == 1:
            return join_chapters(book, *chance.choices(slots, k=2)).book
        if way == 2:
            return reorder(book, tuple(chance.sample(slots, len(slots)))).book
        if way == 3:
            return rename(book, tuple(zip(ids, chance.sample(ids, len(ids))))).book
        if way == 4:
            return without(book, (chance.choice(ids),)).book
        if way == 5:
            return extract(book, tuple(chance.sample(slots, chance.randint(1, len(slots))))).book
        return outlined(book, levels=chance.randint(1, 3)).book


class Kept(Case):
    """Nothing that is passed in is changed, and nothing that is returned has an effect on what comes later ([2])."""

    def test_returned_lists(self):
        book = book_of({"a": node("head1", an("x"), ch("a", link="a#y"))}, contents=((0, "A", "a#zz"),))
        data = raw.closed((0,), raw.row("a", 5))
        update = raw.archive(("bookupdate", (49,)))
        outcome = outlined(book_of({"a": node("head1", an("x"), ch("a", link="a#x"))}))
        for told in (lambda: faults(data), lambda: judge(data), lambda: judge(write_book(book)), lambda: judge_update(book, update),
                     lambda: defects(book), lambda: outline(book), lambda: outcome.links, lambda: Draft(book).broken(),
                     lambda: Draft(book).incoming("a", "y")):
            found = told()
            wanted = list(found)
            self.assertIs(type(found), list)
            self.assertNotEqual(found, [])
            found.clear()
            self.assertEqual(told(), wanted)


if __name__ == "__main__":
    unittest.main()
