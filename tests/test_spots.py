"""Spots, and spots and gaps against one another."""

import random

from bookpack.errors import BadChapter, BadNumber, BadSpot, BadText, NoSpot
from bookpack.spots import Spot, gap_at, spot_at
from tests.making import EXAMPLE, STRANGE, Case, an, ch, cl, joined, line, node, op, random_chapter


def spots_of(tokens):
    """The steps of all gaps, worked out by recursion over the tree."""
    found = {}

    def walk(at, steps):
        count = 0
        while True:
            found[at] = steps + (count,)
            if at == len(tokens) or tokens[at][0] == "close":
                return at
            at = walk(at + 1, steps + (count,)) + 1 if tokens[at][0] == "open" else at + 1
            count += 1

    walk(0, ())
    return [found[gap] for gap in range(len(tokens) + 1)]


class Spots(Case):
    def test_steps(self):
        self.assertEqual(Spot(0).steps, (0,))
        self.assertEqual(Spot(3, 0, 9999).steps, (3, 0, 9999))
        self.assertEqual(Spot(*[7] * 50).steps, (7,) * 50)

    def test_no_steps(self):
        self.assertError(BadSpot, {"number": None}, Spot)

    def test_bad_steps(self):
        for step in STRANGE + (10000, None, (1,), 10**8, -5):
            self.assertError(BadSpot, {"number": 0}, Spot, step)
            self.assertError(BadSpot, {"number": 2}, Spot, 1, 2, step, 4, step)

    def test_properties_cannot_be_assigned(self):
        for name in ("steps", "parent"):
            with self.assertRaises(AttributeError):
                setattr(Spot(1, 2), name, (3,))

    def test_text(self):
        self.assertEqual(Spot(0).text(), "0")
        self.assertEqual(Spot(10, 0, 9999).text(), "10.0.9999")

    def test_read(self):
        for text in ("0", "1", "9999", "0.0", "10.0.9999", "1.2.3.4.5.6.7.8.9.10.11.12.13"):
            spot = Spot.read(text)
            self.assertIsInstance(spot, Spot)
            self.assertEqual(spot.text(), text)
        self.assertEqual(Spot.read(text="1.2").steps, (1, 2))

    def test_read_bad_texts(self):
        places = {
            "": 1, ".": 1, "a": 1, " 1": 1, "-1": 1, "+1": 1, "1.": 3, "1..2": 3, "01": 2, "00": 2, "1.01": 4,
            "12345": 5, "1.10000": 7, "1 ": 2, "1\n": 2, "1,2": 2, "1.2.": 5, "1.a": 3, "\u0661": 1, "1\u0661": 2,
            "1_0": 2, "0.0.0x": 6, "9999.99990": 10, ".a": 1, "0a.": 2,
        }
        for text, column in places.items():
            self.assertError(BadText, {"row": 1, "column": column}, Spot.read, text)

    def test_read_no_string(self):
        for value in (None, 1, b"1", ("1",), ["1"], True, Spot(1)):
            self.assertError(BadText, {"row": 0, "column": 0}, Spot.read, value)

    def test_parent(self):
        self.assertIsNone(Spot(4).parent)
        self.assertEqual(Spot(4, 5).parent, Spot(4))
        self.assertEqual(Spot(4, 5, 6).parent.parent.steps, (4,))

    def test_equal(self):
        self.assertTrue(Spot(1, 2) == Spot(1, 2))
        self.assertFalse(Spot(1, 2) != Spot(1, 2))
        self.assertFalse(Spot(1, 2) == Spot(1))
        self.assertTrue(Spot(1) != Spot(1, 0))

    def test_never_equal_to_another_object(self):
        for value in (1, (1,), [1], "1", None, object()):
            self.assertIs(Spot(1) == value, False)
            self.assertIs(Spot(1) != value, True)
            self.assertIs(value == Spot(1), False)

    def test_order(self):
        rows = [(0,), (0, 0), (0, 1), (0, 10), (1,), (1, 0, 0), (2,), (10,), (10, 5)]
        for one in rows:
            for other in rows:
                self.assertIs(Spot(*one) < Spot(*other), one < other)
                self.assertIs(Spot(*one) <= Spot(*other), one <= other)
                self.assertIs(Spot(*one) > Spot(*other), one > other)
                self.assertIs(Spot(*one) >= Spot(*other), one >= other)
        with self.assertRaises(TypeError):
            Spot(1) < (1,)
        with self.assertRaises(TypeError):
            Spot(1) <= 1

    def test_add(self):
        spot = Spot(3, 4)
        self.assertEqual((spot + 2).steps, (3, 6))
        self.assertEqual((spot + 0).steps, (3, 4))
        self.assertEqual((spot + -4).steps, (3, 0))
        self.assertEqual((spot + 9995).steps, (3, 9999))
        self.assertEqual(spot.steps, (3, 4))

    def test_add_no_integer(self):
        for value in (True, False, 1.0, "1", None, Spot(1), (1,)):
            with self.assertRaises(TypeError):
                Spot(1) + value

    def test_add_beyond(self):
        for much in (9996, -5, 10**8):
            self.assertError(BadSpot, {"number": 1}, lambda: Spot(3, 4) + much)
        self.assertError(BadSpot, {"number": 0}, lambda: Spot(0) + -1)
        self.assertError(BadSpot, {"number": 2}, lambda: Spot(0, 0, 9999) + 1)


class SpotsOfGaps(Case):
    def test_example(self):
        texts = [spot_at(EXAMPLE, gap).text() for gap in range(7)]
        self.assertEqual(texts, ["0", "0.0", "0.1", "0.2", "1", "1.0", "2"])
        self.assertEqual([gap_at(EXAMPLE, Spot.read(text)) for text in texts], list(range(7)))

    def test_empty_chapter(self):
        self.assertEqual(spot_at((), 0), Spot(0))
        self.assertEqual(gap_at((), Spot(0)), 0)
        self.assertError(NoSpot, {"depth": 0}, gap_at, (), Spot(1))
        self.assertError(NoSpot, {"depth": 0}, gap_at, (), Spot(0, 0))

    def test_every_gap(self):
        chance = random.Random(15)
        for _ in range(150):
            chapter = random_chapter(chance)
            steps = spots_of(chapter)
            spots = [spot_at(chapter, gap) for gap in range(len(chapter) + 1)]
            self.assertEqual([spot.steps for spot in spots], steps)
            for gap, spot in enumerate(spots):
                self.assertIsInstance(spot, Spot)
                self.assertEqual(gap_at(chapter, spot), gap)
                self.assertTrue(gap == 0 or spots[gap - 1] < spot)

    def test_spots_that_lead_nowhere(self):
        chapter = joined(line("ab"), node("list", *node("item", *line("c"))))
        cases = {
            "3": 0, "2.0": 0, "9999": 0, "0.3": 1, "0.0.0": 1, "0.2.0": 1, "1.2": 1, "1.1.0": 1, "1.0.2": 2,
            "1.0.0.2": 3, "1.0.0.0.0": 3, "1.0.0.1.0.7": 3, "3.9.9": 0, "1.7.9.9": 1, "1.0.1.0": 2,
        }
        for text, depth in cases.items():
            self.assertError(NoSpot, {"depth": depth}, gap_at, chapter, Spot.read(text))

    def test_only_spots_of_gaps_lead_somewhere(self):
        chance = random.Random(16)
        for _ in range(60):
            chapter = random_chapter(chance)
            steps = spots_of(chapter)
            for _ in range(20):
                row = tuple(chance.randint(0, 3) for _ in range(chance.randint(1, 4)))
                if row in steps:
                    self.assertEqual(gap_at(chapter, Spot(*row)), steps.index(row))
                else:
                    depth = 0
                    while any(found[:depth + 1] == row[:depth + 1] and len(found) > depth + 1 for found in steps):
                        depth += 1
                    self.assertError(NoSpot, {"depth": min(depth, len(row) - 1)}, gap_at, chapter, Spot(*row))

    def test_long_chapter(self):
        chapter = line("a" * 1998)
        self.assertEqual(spot_at(chapter, 1999), Spot(0, 1998))
        self.assertEqual(gap_at(chapter, Spot(0, 1998)), 1999)
        self.assertEqual(spot_at(chapter, 2000), Spot(1))

    def test_bad_gaps(self):
        for gap in STRANGE + (7, None, 10**8):
            self.assertError(BadNumber, {"name": "gap"}, spot_at, EXAMPLE, gap)

    def test_bad_chapters_come_first(self):
        for value, index in ((None, -1), (list(EXAMPLE), -1), (EXAMPLE[:2], 2), ((ch("a"),), 0), ((op("para"), 1), 1)):
            self.assertError(BadChapter, {"index": index}, spot_at, value, -1)
            self.assertError(BadChapter, {"index": index}, gap_at, value, Spot(9, 9))

    def test_by_name(self):
        self.assertEqual(spot_at(chapter=EXAMPLE, gap=2), Spot(0, 1))
        self.assertEqual(gap_at(chapter=EXAMPLE, spot=Spot(0, 1)), 2)

    def test_glyphs_are_children(self):
        chapter = (op("para"), an("a"), ch("b"), cl("para"))
        self.assertEqual([spot_at(chapter, gap).steps for gap in range(5)], [(0,), (0, 0), (0, 1), (0, 2), (1,)])
