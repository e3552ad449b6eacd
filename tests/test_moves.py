"""Moves: what they do to chapters and gaps, and their patches."""

import random

from bookpack.errors import BadChapter, BadNumber, Misfit, NoNode
from bookpack.moves import Move, moving
from bookpack.patches import Patch
from tests.making import EXAMPLE, STRANGE, Case, ch, cl, joined, line, node, op, random_chapter
from tests.test_edits import children

LETTERS = line("abcdef")


def every_move(size):
    for start in range(size + 1):
        for end in range(start, size + 1):
            for to in range(size + 1):
                if not start < to < end:
                    yield start, end, to


def rearranged(row, start, end, to):
    """A list with a run taken elsewhere, worked out by marking the gap first."""
    rows = list(row[:to]) + ["gap"] + list(row[to:])
    low = start if start < to else start + 1
    taken = [thing for thing in rows[low:low + end - start + 1] if thing != "gap"][:end - start]
    rows = [thing for thing in rows if thing not in taken]
    at = rows.index("gap")
    return rows[:at] + taken + rows[at + 1:]


class Making(Case):
    def test_properties(self):
        move = Move(9, 2, 4, 7)
        self.assertEqual((move.size, move.start, move.end, move.to), (9, 2, 4, 7))
        move = Move(size=9, start=4, end=6, to=0)
        self.assertEqual((move.size, move.start, move.end, move.to), (9, 4, 6, 0))
        for name in ("size", "start", "end", "to"):
            with self.assertRaises(AttributeError):
                setattr(move, name, 0)

    def test_bad_numbers(self):
        for value in STRANGE + (10, None):
            self.assertError(BadNumber, {"name": "start"}, Move, 9, value, value, value)
            self.assertError(BadNumber, {"name": "end"}, Move, 9, 2, value, value)
            self.assertError(BadNumber, {"name": "to"}, Move, 9, 2, 4, value)
        for value in STRANGE + (2001, None):
            self.assertError(BadNumber, {"name": "size"}, Move, value, -1, -1, -1)
        self.assertError(BadNumber, {"name": "end"}, Move, 9, 5, 4, 99)
        for to in (3, 4):
            self.assertError(BadNumber, {"name": "to"}, Move, 9, 2, 5, to)
        self.assertEqual([Move(9, 2, 5, to).to for to in (0, 2, 5, 9)], [0, 2, 5, 9])
        self.assertEqual(Move(2000, 0, 2000, 2000).size, 2000)
        self.assertEqual(Move(0, 0, 0, 0).size, 0)


class Moving(Case):
    def test_left_and_right_and_not_at_all(self):
        self.assertEqual(Move(8, 2, 4, 6)(LETTERS), line("adebcf"))
        self.assertEqual(Move(8, 4, 6, 1)(LETTERS), line("deabcf"))
        self.assertEqual(Move(8, 2, 4, 2)(LETTERS), LETTERS)
        self.assertEqual(Move(8, 2, 4, 4)(chapter=LETTERS), LETTERS)
        self.assertEqual(Move(8, 5, 5, 1)(LETTERS), LETTERS)

    def test_errors(self):
        for value, index in ((None, -1), (list(EXAMPLE), -1), (EXAMPLE[:2], 2)):
            self.assertError(BadChapter, {"index": index}, Move(9, 0, 1, 1), value)
            self.assertError(BadChapter, {"index": index}, Move(9, 0, 1, 1).patch, value)
        for move in (Move(5, 0, 1, 1), Move(7, 0, 1, 7)):
            self.assertError(Misfit, {"index": None}, move, EXAMPLE)
            self.assertError(Misfit, {"index": None}, move.patch, EXAMPLE)
        self.assertError(BadChapter, {"index": 0}, Move(6, 2, 3, 0), EXAMPLE)
        self.assertError(BadChapter, {"index": 0}, Move(6, 2, 3, 0).patch, EXAMPLE)
        self.assertError(BadChapter, {"index": 4}, Move(6, 2, 3, 5), EXAMPLE)

    def test_tokens_carries_and_undoing(self):
        for size in range(2, 8):
            chapter = line("abcdef"[:size - 2])
            tokens = list(range(size))
            for start, end, to in every_move(size):
                move = Move(size, start, end, to)
                order = rearranged(tokens, start, end, to)
                made = tuple(chapter[index] for index in order)
                try:
                    self.assertEqual(move(chapter), made)
                    fits = True
                except BadChapter:
                    fits = False
                self.check_carries(move, order)
                self.check_undo(move, chapter if fits else None)
                if fits:
                    self.check_patch(move, chapter)

    def check_carries(self, move, order):
        size = len(order)
        before = [move.carry(gap) for gap in range(size + 1)]
        behind = [move.carry(gap, after=True) for gap in range(size + 1)]
        self.assertEqual(before, [0] + [order.index(gap - 1) + 1 for gap in range(1, size + 1)])
        self.assertEqual(behind, [order.index(gap) for gap in range(size)] + [size])
        undo = move.undo()
        self.assertEqual([undo.carry(gap) for gap in before], list(range(size + 1)))
        self.assertEqual([undo.carry(gap, True) for gap in behind], list(range(size + 1)))

    def check_undo(self, move, chapter):
        undo = move.undo()
        self.assertEqual(undo.size, move.size)
        self.assertEqual(undo.end - undo.start, move.end - move.start)
        self.assertEqual(undo.to, move.end if move.to < move.start else move.start)
        if chapter is not None:
            self.assertEqual(undo(move(chapter)), chapter)

    def check_patch(self, move, chapter):
        patch = move.patch(chapter)
        self.assertEqual(patch(chapter), move(chapter))
        taken = chapter[move.start:move.end]
        if not taken or move.to in (move.start, move.end):
            self.assertEqual(patch, Patch(len(chapter)))
        else:
            pieces = {(move.start, move.end, ()), (move.to, move.to, taken)}
            self.assertEqual((set(patch.pieces), patch.changes), (pieces, ()))

    def test_undo(self):
        cases = (
            ((9, 2, 4, 7), (5, 7, 2)), ((9, 4, 7, 1), (1, 4, 7)), ((9, 0, 3, 9), (6, 9, 0)), ((9, 6, 9, 0), (0, 3, 9)),
            ((9, 2, 4, 2), (2, 4, 2)), ((9, 2, 4, 4), (2, 4, 2)), ((9, 3, 3, 3), (3, 3, 3)),
        )
        for numbers, expected in cases:
            undo = Move(*numbers).undo()
            self.assertEqual((undo.start, undo.end, undo.to), expected, numbers)

    def test_carry(self):
        move = Move(8, 2, 4, 6)
        self.assertEqual([move.carry(gap) for gap in range(9)], [0, 1, 2, 5, 6, 3, 4, 7, 8])
        self.assertEqual([move.carry(gap=gap, after=True) for gap in range(9)], [0, 1, 4, 5, 2, 3, 6, 7, 8])
        move = Move(8, 4, 6, 1)
        self.assertEqual([move.carry(gap) for gap in range(9)], [0, 1, 4, 5, 6, 2, 3, 7, 8])
        self.assertEqual([move.carry(gap, True) for gap in range(9)], [0, 3, 4, 5, 1, 2, 6, 7, 8])

    def test_carry_at_the_first_and_last_gap(self):
        move = Move(6, 0, 3, 6)
        self.assertEqual((move.carry(0), move.carry(0, after=True)), (0, 3))
        self.assertEqual((move.carry(6), move.carry(6, after=True)), (3, 6))

    def test_bad_gaps(self):
        for gap in STRANGE + (9, None):
            self.assertError(BadNumber, {"name": "gap"}, Move(8, 2, 4, 6).carry, gap)
            self.assertError(BadNumber, {"name": "gap"}, Move(8, 2, 4, 6).carry, gap, True)

    def test_patch(self):
        self.assertEqual(Move(8, 2, 4, 6).patch(LETTERS), Patch(8, ((2, 4, ()), (6, 6, LETTERS[2:4]))))
        self.assertEqual(Move(8, 4, 6, 1).patch(chapter=LETTERS), Patch(8, ((1, 1, LETTERS[4:6]), (4, 6, ()))))


class MovingChildren(Case):
    CHAPTER = joined(line("ab"), node("list", *node("item", *line("c")), *node("item")), line("d", "head1"))

    def test_children(self):
        move = moving(self.CHAPTER, 0, 1, 13)
        self.assertEqual((move.size, move.start, move.end, move.to), (16, 0, 4, 13))
        self.assertEqual(move(self.CHAPTER), self.CHAPTER[4:13] + self.CHAPTER[:4] + self.CHAPTER[13:])
        move = moving(chapter=self.CHAPTER, gap=5, count=1, to=12)
        self.assertEqual((move.start, move.end, move.to), (5, 10, 12))
        move = moving(self.CHAPTER, 13, 1, 0)
        self.assertEqual((move.start, move.end, move.to), (13, 16, 0))
        move = moving(self.CHAPTER, 0, 0, 9)
        self.assertEqual((move.start, move.end, move.to), (0, 0, 9))

    def test_to_start_and_end(self):
        for to in (0, 4):
            self.assertEqual(moving(self.CHAPTER, 0, 1, to)(self.CHAPTER), self.CHAPTER)

    def test_errors_in_their_order(self):
        for value, index in ((None, -1), (list(self.CHAPTER), -1), (self.CHAPTER[:2], 2)):
            self.assertError(BadChapter, {"index": index}, moving, value, -1, -1, -1)
        for value in STRANGE + (17, None):
            self.assertError(BadNumber, {"name": "gap"}, moving, self.CHAPTER, value, -1, -1)
            self.assertError(BadNumber, {"name": "to"}, moving, self.CHAPTER, 0, 1, value)
        for value in STRANGE + (None,):
            self.assertError(BadNumber, {"name": "count"}, moving, self.CHAPTER, 16, value, -1)
        self.assertError(NoNode, {"gap": 16}, moving, self.CHAPTER, 16, 1, -1)
        self.assertError(NoNode, {"gap": 0}, moving, self.CHAPTER, 0, 10**8, 1)
        for to in (1, 2, 3):
            self.assertError(BadNumber, {"name": "to"}, moving, self.CHAPTER, 0, 1, to)
        self.assertError(BadChapter, {"index": 1}, moving, self.CHAPTER, 0, 1, 5)
        self.assertError(BadChapter, {"index": 4}, moving, self.CHAPTER, 5, 1, 4)

    def test_too_many_open_nodes(self):
        deep = tuple(op("quote") for _ in range(12)) + tuple(cl("quote") for _ in range(12))
        chapter = deep + line("")
        self.assertError(BadChapter, {"index": 12}, moving, chapter, 24, 1, 12)
        made = moving(chapter, 24, 1, 11)(chapter)
        self.assertEqual(made, deep[:11] + line("") + deep[11:])

    def test_against_deleting_and_inserting(self):
        chance = random.Random(36)
        for _ in range(150):
            chapter = random_chapter(chance)
            gap = chance.randint(0, len(chapter))
            ends = children(chapter, gap)
            count = chance.randint(0, len(ends) - 1)
            end = ends[count]
            to = chance.randint(0, len(chapter))
            if gap < to < end:
                self.assertError(BadNumber, {"name": "to"}, moving, chapter, gap, count, to)
                continue
            taken = chapter[gap:end]
            rest = chapter[:gap] + chapter[end:]
            place = to if to <= gap else to - len(taken)
            try:
                move = moving(chapter, gap, count, to)
            except BadChapter:
                continue
            self.assertEqual(move(chapter), rest[:place] + taken + rest[place:])
            self.assertEqual(move.undo()(move(chapter)), chapter)

    def test_the_chapter_stays(self):
        before = joined(self.CHAPTER)
        moving(self.CHAPTER, 0, 1, 13)
        self.assertEqual(self.CHAPTER, before)
        self.assertEqual(Move(3, 1, 2, 2)((op("para"), ch("a"), cl("para"))), line("a"))
