"""The texts of patches, and exactly which texts are read ([92])."""

import random
import re
import unittest

from bookpack.errors import BadPatch, BadText
from bookpack.patches import Patch
from bookpack.updates import read_patch, write_patch
from tests.making import BOXES, LINES, STRANGE, STYLES, Case, an, ch, cl, im, op, random_chapter, random_patch

TEXT = "".join(chr(number) for number in range(32, 127) if number != 37)
NUMBER = "(0|[1-9][0-9]{0,8})"


def rows_of(*rows):
    return "".join(row + "\n" for row in rows)


def loosely(rows):
    """The patch that rows tell, read with no look at whether they can stand; anything at all, if they are no rows."""
    size = int(re.fullmatch(f"size {NUMBER}", rows[0]).group(1))
    pieces = []
    changes = []
    for row in rows[1:]:
        words = row.split(" ")
        if words[0] == "cut":
            pieces.append((int(words[1]), int(words[2]), ()))
        elif words[0] == "set":
            value = {"yes": True, "no": False, "-": None}.get(words[3], words[3])
            changes.append((int(words[1]), words[2], value))
        else:
            token = tuple(words)
            if words[0] == "char":
                styles = () if words[1] == "-" else tuple(words[1].split(","))
                token = ("char", row[len(" ".join(words[:3])) + 1:], styles, None if words[2] == "-" else words[2])
            start, end, tokens = pieces.pop()
            pieces.append((start, end, tokens + (token,)))
    return Patch(size, tuple(pieces), tuple(changes))


def can_stand(rows):
    """Whether the text of a patch begins with these rows: whether they are, with a token behind a last cut, such a text."""
    rows = rows + ["anchor a"] if rows[-1].startswith("cut") else rows
    try:
        return write_patch(loosely(rows)) == rows_of(*rows)
    except (BadPatch, AttributeError, IndexError, ValueError, TypeError, KeyError):
        return False


def expected_row(text):
    """The first row of a text that cannot stand, None if it is the text of a patch."""
    rows = text.split("\n")
    for number in range(1, len(rows)):
        if not can_stand(rows[:number]):
            return number
    if rows[-1] or len(rows) == 1:
        return len(rows)
    words = rows[-2].split(" ")
    return len(rows) if words[0] == "cut" and words[1] == words[2] else None


class TextCase(Case):
    def same(self, patch, *rows):
        text = rows_of(*rows)
        self.assertEqual(write_patch(patch), text)
        self.assertEqual(write_patch(patch=patch), text)
        self.assertEqual(read_patch(text), patch)
        self.assertEqual(read_patch(text=text), patch)
        self.assertIsNone(expected_row(text))

    def bad(self, row, *rows):
        self.refused(row, rows_of(*rows))

    def refused(self, row, text):
        self.assertError(BadText, {"row": row, "column": 0}, read_patch, text)
        self.assertEqual(expected_row(text), row, text)

    def bad_behind(self, before, *rows):
        """Check that none of these rows can stand behind those before."""
        for row in rows:
            self.bad(len(before) + 1, *before, row)
            self.bad(len(before) + 1, *before, row, "anchor a", "set 0 code yes", "x")


class Written(TextCase):
    def test_sizes(self):
        for size in (0, 1, 9, 10, 1999, 2000):
            self.same(Patch(size), f"size {size}")

    def test_pieces(self):
        self.same(Patch(5, ((0, 5, ()),)), "size 5", "cut 0 5")
        self.same(Patch(5, ((5, 5, (an("a"),)),)), "size 5", "cut 5 5", "anchor a")
        self.same(Patch(9, ((0, 0, (an("a"), im("b"))), (1, 3, ()), (4, 5, (op("para"),)), (7, 9, ()))),
                  "size 9", "cut 0 0", "anchor a", "image b", "cut 1 3", "cut 4 5", "open para", "cut 7 9")
        self.same(Patch(2000, ((1000, 1999, ()), (2000, 2000, (im("z9"),)))), "size 2000", "cut 1000 1999", "cut 2000 2000", "image z9")

    def test_tokens(self):
        for kind in BOXES + LINES:
            self.same(Patch(0, ((0, 0, (op(kind), cl(kind))),)), "size 0", "cut 0 0", "open " + kind, "close " + kind)
        self.same(Patch(0, ((0, 0, (an("abcdefghijklmnop"), im("a1"))),)), "size 0", "cut 0 0", "anchor abcdefghijklmnop", "image a1")

    def test_chars(self):
        for c in TEXT:
            self.same(Patch(0, ((0, 0, (ch(c),)),)), "size 0", "cut 0 0", "char - - " + c)
            self.same(Patch(0, ((0, 0, (ch(c, "code", link="out:x"), ch("a"))),)),
                      "size 0", "cut 0 0", "char code out:x " + c, "char - - a")

    def test_styles_and_links(self):
        for styles, word in (((), "-"), (("code",), "code"), (("slant",), "slant"), (("strong",), "strong"),
                             (("code", "slant"), "code,slant"), (("code", "strong"), "code,strong"),
                             (("slant", "strong"), "slant,strong"), (STYLES, "code,slant,strong")):
            for link in (None, "a#b", "out:-", "out:,#", "abcdefghijklmnop#abcdefghijklmnop"):
                self.same(Patch(1, ((1, 1, (ch(" ", *styles, link=link),)),)), "size 1", "cut 1 1", f"char {word} {link or '-'}  ")

    def test_changes(self):
        for aspect in STYLES:
            self.same(Patch(2, (), ((0, aspect, True), (1, aspect, False))), "size 2", f"set 0 {aspect} yes", f"set 1 {aspect} no")
        for kind in BOXES + LINES:
            self.same(Patch(1, (), ((0, "kind", kind),)), "size 1", f"set 0 kind {kind}")
        for link in ("a#b", "out:yes", "out:-"):
            self.same(Patch(1, (), ((0, "link", link),)), "size 1", f"set 0 link {link}")
        self.same(Patch(1, (), ((0, "link", None),)), "size 1", "set 0 link -")
        changes = ((3, "code", True), (3, "kind", "para"), (3, "link", None), (3, "slant", False), (3, "strong", True), (1999, "code", False))
        self.same(Patch(2000, ((0, 3, ()), (5, 5, (an("a"),))), changes),
                  "size 2000", "cut 0 3", "cut 5 5", "anchor a", "set 3 code yes", "set 3 kind para", "set 3 link -", "set 3 slant no",
                  "set 3 strong yes", "set 1999 code no")

    def test_random(self):
        for seed in range(400):
            chance = random.Random(seed)
            patch = random_patch(chance, random_chapter(chance, 6))
            self.same(patch, *write_patch(patch).split("\n")[:-1])

    def test_many_tokens(self):
        patch = Patch(2000, ((0, 2000, tuple(ch("a", *STYLES) for _ in range(3000))),))
        text = rows_of("size 2000", "cut 0 2000", *["char code,slant,strong - a"] * 3000)
        self.assertEqual(write_patch(patch), text)
        self.assertEqual(read_patch(text), patch)


class Refused(TextCase):
    def test_no_string(self):
        for value in STRANGE + (None, (), b"size 0\n", Patch(0)):
            if not isinstance(value, str):
                self.assertError(BadText, {"row": 0, "column": 0}, read_patch, value)

    def test_texts_that_end_too_soon(self):
        self.refused(1, "")
        self.refused(3, "size 5\ncut 2 2\n")
        self.refused(4, "size 5\ncut 0 1\ncut 2 2\n")
        self.refused(5, "size 5\ncut 0 0\nanchor a\ncut 5 5\n")

    def test_a_last_row_without_a_line_end(self):
        self.refused(1, "size 5")
        self.refused(2, "size 5\ncut 0 5")
        self.refused(3, "size 5\ncut 0 0\nanchor a")
        self.refused(2, "size 5\nset 0 code yes")
        self.refused(2, "size 5\nx")
        self.refused(3, "size 5\ncut 2 2\ncut 3 4")
        self.refused(2, "size 5\n ")

    def test_the_size(self):
        self.bad_behind((), "", "size", "size ", "size  5", "size 5 ", " size 5", "size 05", "size 00", "size -1", "size +5", "size 2001",
                        "size 5.0", "size a", "size 5 5", "Size 5", "size 999999999", "size " + "9" * 10, "size " + "1" * 5000,
                        "size \u0665", "size \u00b2", "cut 0 0", "set 0 code yes", "anchor a", "size 1_0", "size\t5", "size 5\r")
        self.bad_behind(("size 5",), "size 5", "size 6")
        self.bad_behind(("size 5", "cut 0 5"), "size 5")
        self.bad_behind(("size 5", "set 0 code yes"), "size 5")

    def test_cuts(self):
        self.bad_behind(("size 5",), "cut", "cut 0", "cut 0 ", "cut  0 1", "cut 0  1", "cut 0 1 ", "cut 0 1 2", "cut 00 1", "cut 0 01",
                        "cut -1 1", "cut 1 0", "cut 0 6", "cut 6 6", "cut 5 4", "cut a 1", "cut +0 1", "Cut 0 1", " cut 0 1",
                        "cut 0 9999999999", "cut " + "0" * 5000 + " 1", "cut 0 " + "1" * 5000, "cut 0 1\t", "")
        self.bad_behind(("size 5", "cut 1 3"), "cut 0 1", "cut 1 3", "cut 2 4", "cut 3 4", "cut 3 3", "cut 0 0")
        self.bad_behind(("size 5", "cut 5 5", "anchor a"), "cut 5 5", "cut 0 1", "cut 6 6")
        self.bad_behind(("size 5", "set 0 code yes"), "cut 1 2", "cut 0 1")
        self.same(Patch(5, ((1, 3, ()), (4, 4, (an("a"),)))), "size 5", "cut 1 3", "cut 4 4", "anchor a")

    def test_pieces_that_put_and_remove_nothing(self):
        self.bad_behind(("size 5", "cut 2 2"), "cut 3 4", "cut 2 2", "set 0 code yes", "", "x", "size 5", "open x")
        self.bad_behind(("size 5", "cut 0 1", "cut 2 2"), "cut 3 4", "set 1 code yes")

    def test_tokens(self):
        before = ("size 5", "cut 0 1")
        for row in ("anchor a", "char - - a", "open para", "close para", "image a"):
            self.bad(2, "size 5", row)
            self.bad(3, "size 5", "set 1 code yes", row)
            self.bad(4, *before, "set 1 code yes", row)
        self.bad_behind(before, "open", "open ", "open x", "open Para", "open  para", "open para ", "open para para", " open para",
                        "close", "close x", "anchor A", "anchor", "anchor  a", "anchor a b", "anchor a ", "anchor 1a",
                        "anchor abcdefghijklmnopq", "image a#b", "image", "image -", "Open para", "opens para", "token a",
                        "char", "char a", "char - a", "char - -", "char - - ", "char - - ab", "char - -  a", "char - - a ",
                        "char  - a", "char -  a", "char - - %", "char - - \t", "char - - \u00e4", "char -- - a", "char code", "char code a",
                        "char x - a", "char code, - a", "char ,code - a", "char slant,code - a", "char code,code - a", "char code,- - a",
                        "char - a a", "char - a# a", "char - out: a", "char - out:x", "char - out:x y z", "char - #a a", "char None - a",
                        "char () - a", "char - None a", "char -,code - a", "char code slant - a")

    def test_changes(self):
        for before in (("size 5",), ("size 5", "cut 3 4"), ("size 5", "cut 3 3", "anchor a")):
            self.bad_behind(before, "set", "set 0", "set 0 code", "set 0 code ", "set 0 code yes ", "set 0 code yes no", "set  0 code yes",
                            "set 0  code yes", "set 00 code yes", "set 01 code yes", "set -1 code yes", "set 5 code yes",
                            "set 5000000000 code yes", "set a code yes", "set 0 bold yes", "set 0 Code yes", "set 0 code True",
                            "set 0 code 1", "set 0 code -", "set 0 code Yes", "set 0 slant code", "set 0 strong para", "set 0 kind x",
                            "set 0 kind -", "set 0 kind yes", "set 0 link yes", "set 0 link a", "set 0 link a#", "set 0 link",
                            "set 0 link ", "set 0 link out:", "set 0 link --", "set 0 link None", "set 0 size 5", "set + code yes",
                            "set " + "1" * 5000 + " code yes", "Set 0 code yes", "set\t0 code yes", "set 0 word open")
        self.bad_behind(("size 5", "cut 1 3"), "set 1 code yes", "set 2 kind para")
        self.same(Patch(5, ((1, 3, ()),), ((0, "code", True), (3, "code", True))), "size 5", "cut 1 3", "set 0 code yes", "set 3 code yes")
        self.bad_behind(("size 5", "set 2 link -"), "set 2 link -", "set 2 link a#b", "set 2 kind para", "set 2 code yes", "set 1 strong yes",
                        "set 0 link -", "set 5 link -")
        self.bad(2, "size 0", "set 0 code yes")
        # The first bad change is told, even if a later row is not written like one.
        self.bad(3, "size 5", "set 2 code yes", "set 1 code yes", "x")
        self.bad(4, "size 5", "set 2 code yes", "set 3 code yes", "x", "set 0 code yes")

    def test_rows_left_out_put_in_told_twice_and_exchanged(self):
        others = ("size 3", "cut 0 0", "cut 1 2", "anchor a", "char - -  ", "set 0 code yes", "set 1 link -", "", "x", "open", "cut 0 3000")
        wrong = 0
        for seed in range(1500):
            chance = random.Random(seed)
            rows = write_patch(random_patch(chance, random_chapter(chance, 5))).split("\n")[:-1]
            at = chance.randrange(len(rows))
            way = chance.randrange(5)
            if way == 0:
                del rows[at]
            elif way == 1:
                rows.insert(at + 1, chance.choice(others))
            elif way == 2:
                rows[at] = chance.choice(others)
            elif way == 3:
                rows.insert(at, rows[at])
            else:
                rows[at:at + 2] = rows[at:at + 2][::-1]
            wrong += self.checked(rows_of(*rows))
        self.assertGreater(wrong, 700)

    def test_characters_changed(self):
        for seed in range(1500):
            chance = random.Random(seed)
            text = write_patch(random_patch(chance, random_chapter(chance, 5)))
            at = chance.randint(0, len(text))
            self.checked(text[:at] + chance.choice(("", " ", "0", "-", "a", "\n", ",", "9")) + text[at + chance.randint(0, 1):])

    def test_cut_off(self):
        text = write_patch(Patch(5, ((0, 2, ()), (3, 3, (ch(" "), an("a")))), ((2, "code", True), (3, "kind", "para"))))
        for count in range(len(text)):
            self.assertTrue(self.checked(text[:count]) or text[:count].endswith("\n"))
            self.checked(text[count:])

    def checked(self, text):
        """Check a text against the words of the document; whether it is refused."""
        row = expected_row(text)
        if row is None:
            self.assertEqual(write_patch(read_patch(text)), text)
        else:
            self.assertError(BadText, {"row": row, "column": 0}, read_patch, text)
        return row is not None


if __name__ == "__main__":
    unittest.main()
