"""Markup: the texts of chapters, and exactly which texts are read ([85], [86])."""

import random
import re
import unittest

from bookpack.chapters import first_bad
from bookpack.errors import BadChapter, BadText
from bookpack.markup import read_chapter, write_chapter
from tests.making import BOXES, EXAMPLE, LINES, STRANGE, STYLES, Case, an, ch, cl, im, joined, line, node, op, random_chapter

TEXT = "".join(chr(number) for number in range(32, 127) if number != 37)
ALL_STYLES = [
    tuple(style for style, is_there in zip(STYLES, row) if is_there)
    for row in [(a, b, c) for a in (0, 1) for b in (0, 1) for c in (0, 1)]
]
PIECE = re.compile("<[^>\n]*>|&[la];|\n|(?s:.)")


def pieces(text):
    return PIECE.findall(text)


def look_of(tag):
    styles, space, link = tag[2:-1].partition(" ")
    return tuple(styles.split(",")) if styles else (), link if space else None


def told(rows):
    """The tokens that pieces tell, whether they can stand or not; None where one tells nothing."""
    tokens = []
    look = ((), None)
    for piece in rows:
        if piece == "\n":
            look = ((), None)
        elif piece.startswith("<=") and piece.endswith(">"):
            look = look_of(piece)
        elif piece in ("&l;", "&a;") or len(piece) == 1:
            tokens.append(("char", {"&l;": "<", "&a;": "&"}.get(piece, piece), *look))
        elif piece[1] in "/#!":
            tokens.append(({"/": "close", "#": "anchor", "!": "image"}[piece[1]], piece[2:-1]))
        else:
            tokens.append(("open", piece[1:-1]))
    return tokens


def can_stand(rows):
    """Whether a text begins with these pieces: whether they are what is written for the shortest chapter of this kind."""
    if rows and rows[-1].startswith("<=") and len(rows[-1]) > 2:
        rows = rows + ["x"]
    if any(len(piece) == 1 and piece in "<&" for piece in rows):
        return False
    tokens = told(rows)
    inner = []
    for token in tokens:
        if token[0] == "open":
            inner.append(token[1])
        elif token[0] == "close" and inner:
            inner.pop()
    text = "".join(rows)
    if inner and inner[-1] in LINES:
        text = text + "</" + inner[-1] + ">"
        tokens.append(("close", inner.pop()))
    if rows and not text.endswith("\n"):
        text = text + "\n"
    for kind in inner[::-1]:
        text = text + "</" + kind + ">\n"
        tokens.append(("close", kind))
    tokens = tuple(tokens)
    return first_bad(tokens) is None and write_chapter(tokens) == text


def expected_place(text):
    """The row and column at which a text cannot be read, by looking for each beginning of it; None if it can."""
    rows = pieces(text)
    for at, piece in enumerate(rows):
        behind = rows[at + 1] if at + 1 < len(rows) else ""
        is_bare = piece.startswith("<=") and not (len(behind) == 1 and behind in TEXT and behind not in "<&"
                                                  or behind in ("&l;", "&a;"))
        if is_bare or not can_stand(rows[:at + 1]):
            return place_of("".join(rows[:at]))
    if first_bad(tuple(told(rows))) is not None or text and not text.endswith("\n"):
        return place_of(text)
    return None


def place_of(before):
    """The row and column behind a text."""
    return before.count("\n") + 1, len(before) - before.rfind("\n")


class MarkupCase(Case):
    def same(self, chapter, text):
        """Check that a chapter has this text."""
        self.assertEqual(write_chapter(chapter), text)
        self.assertEqual(write_chapter(chapter=chapter), text)
        self.assertEqual(read_chapter(text), chapter)
        self.assertIs(type(read_chapter(text=text)), tuple)

    def glyphs(self, text, *tokens):
        self.same(node("para", *tokens), "<para>" + text + "</para>\n")

    def bad(self, text, row, column):
        """Check that a text cannot be read from this place on."""
        self.assertError(BadText, {"row": row, "column": column}, read_chapter, text)
        self.assertEqual(expected_place(text), (row, column), text)


class Written(MarkupCase):
    def test_the_examples(self):
        self.same((), "")
        self.same(EXAMPLE, "<head1><#top>A</head1>\n<list>\n</list>\n")
        self.same((op("para"), ch("<", "strong"), ch("b", link="out:x"), cl("para")),
                  "<para><=strong>&l;<= out:x>b</para>\n")

    def test_each_kind(self):
        for kind in LINES:
            self.same(node(kind), "<" + kind + "></" + kind + ">\n")
            self.same(line("ab", kind), "<" + kind + ">ab</" + kind + ">\n")
            self.same(line("a", kind) * 2, ("<" + kind + ">a</" + kind + ">\n") * 2)
        for kind in BOXES:
            chapter = node("list", *node("item")) if kind == "item" else node(kind)
            text = "<" + kind + ">\n</" + kind + ">\n"
            self.same(chapter, "<list>\n" + text + "</list>\n" if kind == "item" else text)

    def test_boxes_within_boxes(self):
        chapter = node("section", *line("a"), *node("list", *node("item", *node("quote"), *line("b")), *node("item")))
        self.same(chapter + line(""), "<section>\n<para>a</para>\n<list>\n<item>\n<quote>\n</quote>\n<para>b</para>\n"
                                      "</item>\n<item>\n</item>\n</list>\n</section>\n<para></para>\n")
        deep = tuple(op("quote") for _ in range(12)) + tuple(cl("quote") for _ in range(12))
        self.same(deep, "<quote>\n" * 12 + "</quote>\n" * 12)

    def test_each_character(self):
        for c in TEXT:
            self.glyphs({"<": "&l;", "&": "&a;"}.get(c, c), ch(c))
            self.glyphs("x" + {"<": "&l;", "&": "&a;"}.get(c, c) * 2 + "x", ch("x"), ch(c), ch(c), ch("x"))
        self.glyphs("  >&a;l;&l;", *[ch(c) for c in "  >&l;<"])
        self.glyphs("&a;a;&l;para>/", *[ch(c) for c in "&a;<para>/"])

    def test_styles(self):
        self.assertEqual(len(ALL_STYLES), 8)
        for styles in ALL_STYLES[1:]:
            self.glyphs("<=" + ",".join(styles) + ">a", ch("a", *styles))
            self.glyphs("a<=" + ",".join(styles) + ">bc<=>d", ch("a"), ch("b", *styles), ch("c", *styles), ch("d"))
        self.glyphs("<=code,slant,strong>a", ch("a", "code", "slant", "strong"))
        for one in ALL_STYLES:
            for other in ALL_STYLES:
                first = "<=" + ",".join(one) + ">" if one else ""
                second = "" if one == other else "<=" + ",".join(other) + ">"
                self.glyphs(first + "a" + second + "b", ch("a", *one), ch("b", *other))

    def test_links(self):
        for link in ("a#b", "abcdefghijklmnop#abcdefghijklmnop", "out:x", "out:/=,#!;x", "out:" + "x" * 20):
            self.glyphs("<= " + link + ">a", ch("a", link=link))
            self.glyphs("<=code " + link + ">a", ch("a", "code", link=link))
            self.glyphs("<=code,slant,strong " + link + ">a<=>b", ch("a", *STYLES, link=link), ch("b"))
        self.glyphs("<= a#b>a<= a#c>b<=slant a#c>c<=slant>d",
                    ch("a", link="a#b"), ch("b", link="a#c"), ch("c", "slant", link="a#c"), ch("d", "slant"))

    def test_a_look_that_changes_and_goes_back(self):
        self.glyphs("a<=code>b<=>c<=code>d", ch("a"), ch("b", "code"), ch("c"), ch("d", "code"))
        self.glyphs("<= a#b>a<=>b<= a#b>c", ch("a", link="a#b"), ch("b"), ch("c", link="a#b"))

    def test_a_look_ends_with_its_line(self):
        chapter = node("para", ch("a", "code")) + node("para", ch("b", "code")) + node("head1", ch("c"))
        self.same(chapter, "<para><=code>a</para>\n<para><=code>b</para>\n<head1>c</head1>\n")

    def test_anchors_and_images_between_chars(self):
        self.glyphs("<#a><!b>", an("a"), im("b"))
        self.glyphs("<=code>a<#x><!y>b<#z><=>c<!u>", ch("a", "code"), an("x"), im("y"), ch("b", "code"), an("z"), ch("c"), im("u"))
        self.glyphs("<#x><= a#b>a<#y>b", an("x"), ch("a", link="a#b"), an("y"), ch("b", link="a#b"))
        self.glyphs("<#abcdefghijklmnop><!z9>", an("abcdefghijklmnop"), im("z9"))

    def test_random(self):
        for seed in range(400):
            chapter = random_chapter(random.Random(seed), 8)
            text = write_chapter(chapter)
            self.same(chapter, text)
            self.assertIsNone(expected_place(text))

    def test_long_chapters(self):
        for chapter in (line("a" * 1998), node("para", *[ch("<", *STYLES, link="out:" + "x" * 20)] * 1998),
                        joined(*[line("")] * 1000), node("quote", *joined(*[line("ab")] * 499), *node("list"))):
            self.assertEqual(len(chapter), 2000)
            self.assertEqual(read_chapter(write_chapter(chapter)), chapter)
        looks = [ch("<" if number % 2 else "&", *ALL_STYLES[1 + number % 7], link="abcdefghijklmnop#abcdefghijklmnop")
                 for number in range(1998)]
        text = write_chapter(node("para", *looks))
        self.assertLess(len(text), 150000)
        self.assertEqual(read_chapter(text), node("para", *looks))

    def test_no_chapter(self):
        for value, index in ((None, -1), ([], -1), ("", -1), ((1,), 0), (EXAMPLE[:-1], 5), ((ch("a"),), 0),
                             (line("a" * 1999), 1999), (node("item"), 0)):
            self.assertError(BadChapter, {"index": index}, write_chapter, value)


class Refused(MarkupCase):
    def test_no_string(self):
        for value in STRANGE + (None, (), b"", EXAMPLE):
            if not isinstance(value, str):
                self.assertError(BadText, {"row": 0, "column": 0}, read_chapter, value)
        self.bad("1", 1, 1)

    def test_line_ends(self):
        self.bad("\n", 1, 1)
        self.bad("<para></para>", 1, 14)
        self.bad("<para></para>\n\n", 2, 1)
        self.bad("\n<para></para>\n", 1, 1)
        self.bad("<list>\n\n</list>\n", 2, 1)
        self.bad("<list></list>\n", 1, 7)
        self.bad("<list>\n</list>", 2, 8)
        self.bad("<para>a\n</para>\n", 1, 8)
        self.bad("<para>\n", 1, 7)
        self.bad("<para></para><para></para>\n", 1, 14)
        self.bad("<para></para> \n", 1, 14)
        self.bad(" <para></para>\n", 1, 1)
        self.bad("<list> \n</list>\n", 1, 7)
        self.bad("<para></para>\r\n", 1, 14)

    def test_a_text_that_ends_with_a_node_open(self):
        self.bad("<section>\n", 2, 1)
        self.bad("<section>", 1, 10)
        self.bad("<section>\n<para>a</para>\n", 3, 1)
        self.bad("<section>\n<para>a</para>", 2, 15)
        self.bad("<section>\n<para>a", 2, 8)
        self.bad("<para>", 1, 7)
        self.bad("<para>&l;", 1, 10)
        self.bad("<list>\n<item>\n</item>\n", 4, 1)

    def test_tags_that_are_none(self):
        for tag in ("<>", "<p>", "<para >", "< para>", "<Para>", "<paragraph>", "</>", "<//para>", "</para >", "<#>", "<!>",
                    "<#A>", "<#1a>", "<!a b>", "<#abcdefghijklmnopq>", "<!a#b>", "<a#b>", "<out:x>", "<char>", "<close>",
                    "<##a>", "<!!a>", "<#!a>", "<\t>", "<para\t>", "<br/>", "<%>", "<<>", "<a<para>", "<-->"):
            self.bad("<para>a" + tag + "b</para>\n", 1, 8)
            self.bad(tag + "\n", 1, 1)
            self.bad("<quote>\n" + tag + "\n</quote>\n", 2, 1)

    def test_tags_where_they_cannot_stand(self):
        self.bad("<item>\n</item>\n", 1, 1)
        self.bad("<quote>\n<item>\n</item>\n</quote>\n", 2, 1)
        for kind in ("section", "quote", "list") + LINES:
            self.bad("<list>\n<" + kind + ">\n", 2, 1)
        for kind in BOXES + LINES:
            self.bad("<para>a<" + kind + ">b</para>\n", 1, 8)
            self.bad("</" + kind + ">\n", 1, 1)
            if kind != "para":
                self.bad("<para>a</" + kind + ">\n", 1, 8)
            if kind != "quote":
                self.bad("<quote>\n</" + kind + ">\n", 2, 1)
        self.bad("<quote>\n<para></para>\n</quote>\n</quote>\n", 4, 1)
        for tag in ("<#a>", "<!a>", "a", "&l;", " ", ">", "<=code>a", "<=code>"):
            self.bad(tag + "\n", 1, 1)
            self.bad(tag + "<para></para>\n", 1, 1)
            self.bad("<quote>" + tag + "\n</quote>\n", 1, 8)
            self.bad("<quote>\n" + tag + "\n</quote>\n", 2, 1)
            self.bad("<para></para>" + tag + "\n", 1, 14)

    def test_a_tag_without_an_end_in_its_row(self):
        self.bad("<para>a<b</para>\n", 1, 8)
        self.bad("<para>a<", 1, 8)
        self.bad("<para>a<\n>", 1, 8)
        self.bad("<para>a<#a\n></para>\n", 1, 8)
        self.bad("<para>a</para\n>", 1, 8)
        self.bad("<para", 1, 1)
        self.bad("<", 1, 1)
        self.bad("<quote>\n<para\n>", 2, 1)

    def test_escapes(self):
        for text in ("&", "&;", "&l", "&a", "&&l;", "&L;", "&lt;", "&amp;", "& l;", "&g;", "&l ;", "&\n", "&#38;", "&la;"):
            self.bad("<para>a" + text + "</para>\n", 1, 8)
            self.bad("<para>a" + text, 1, 8)
        self.bad("<para>&l;&a;&l", 1, 13)

    def test_characters_that_are_no_text(self):
        for number in list(range(10)) + list(range(11, 32)) + [37, 127, 128, 160, 228, 0x85, 0x2028, 0x20ac, 0x1f600]:
            c = chr(number)
            self.bad("<para>a" + c + "b</para>\n", 1, 8)
            self.bad("<para>a" + c, 1, 8)
            self.bad(c, 1, 1)
            self.bad("<para></para>" + c, 1, 14)

    def test_looks_that_are_none(self):
        for look in ("bold", "code,", ",code", "slant,code", "code,code", "code,slant,strong,code", "code slant", "Code", " ",
                     "code ", "  a#b", " a", " a#", " out:", " out:a b", "a#b", "code,a#b", "code  a#b", " a#b ", "#a",
                     " out:" + "x" * 21, "code, slant", "=code", " out:&", " out:<", "%", " None", "None", "()", "-"):
            self.bad("<para>x<=" + look + ">a</para>\n", 1, 8)

    def test_looks_that_change_nothing(self):
        self.bad("<para><=>a</para>\n", 1, 7)
        self.bad("<para>a<=>b</para>\n", 1, 8)
        self.bad("<para><=code>a<=code>b</para>\n", 1, 15)
        self.bad("<para><=code a#b>a<#x><=code a#b>b</para>\n", 1, 23)
        self.bad("<para><= a#b>a</para>\n<para><=>b</para>\n", 2, 7)
        for behind in ("", "\n", "<", "&", "%", "</para>\n", "<#a>", "<=code>"):
            self.bad("<para>a<=>" + behind, 1, 8)

    def test_looks_that_are_followed_by_no_char(self):
        for behind in ("", "\n", "</para>\n", "<#a>b", "<!a>b", "<=slant>b", "<=>b", "<", "<b", "&", "&x", "%", "\t", "\r\n",
                       "<para>", "<>", "&lt;", "\u00e4", "<quote>\n"):
            self.bad("<para>a<=code>" + behind, 1, 8)
            self.bad("<para><=code>a<= a#b>" + behind, 1, 15)
        for behind in ("a", " ", "&l;", "&a;", ">"):
            self.assertIsNone(expected_place("<para>a<=code>" + behind + "</para>\n"))
            self.assertEqual(len(read_chapter("<para>a<=code>" + behind + "</para>\n")), 4)

    def test_the_thirteenth_node(self):
        for kind in ("quote", "section", "para", "list"):
            self.bad("<quote>\n" * 12 + "<" + kind + ">", 13, 1)
        self.bad("<quote>\n" * 12, 13, 1)
        self.assertEqual(len(read_chapter("<quote>\n" * 11 + "<para></para>\n" + "</quote>\n" * 11)), 24)


class Room(MarkupCase):
    """Texts of chapters that have no room left ([12]); the place is that of the token, not that of its tag."""

    def refused(self, text, row, column):
        self.assertError(BadText, {"row": row, "column": column}, read_chapter, text)

    def test_lines(self):
        self.assertEqual(len(read_chapter("<para>" + "a" * 1998 + "</para>\n")), 2000)
        for last in ("b", "&l;", "<#a>", "<!a>", "<=code>b", "%", "<=>"):
            column = 7 + 1998 + (7 if last == "<=code>b" else 0)
            self.refused("<para>" + "a" * 1998 + last + "</para>\n", 1, column)
            self.refused("<para>" + "a" * 1998 + last, 1, column)
        # The tag is followed by no char, so that it is the tag that cannot stand.
        for last in ("<=code></para>\n", "<=code>", "<=code>\n", "<=code><#a>"):
            self.refused("<para>" + "a" * 1998 + last, 1, 2005)
        self.refused("<para>" + "a" * 1998, 1, 2005)
        self.refused("<para>" + "a" * 2500 + "</para>\n<bad>\n", 1, 2005)

    def test_nodes(self):
        before = "<para></para>\n" * 999
        self.assertEqual(len(read_chapter(before)), 1998)
        self.assertEqual(len(read_chapter(before + "<para></para>\n")), 2000)
        self.assertEqual(len(read_chapter(before + "<list>\n</list>\n")), 2000)
        for inner in ("a</para>\n", "&a;", "<#a>", "<!a>"):
            self.refused(before + "<para>" + inner, 1000, 7)
        self.refused(before + "<para><=code>a", 1000, 14)
        self.refused(before + "<list>\n<item>\n", 1001, 1)
        self.refused(before + "<quote>\n<para></para>\n", 1001, 1)
        self.refused(before + "<para></para>\n<para></para>\n", 1001, 1)
        self.refused(before + "<para></para>\n</para>\n", 1001, 1)
        self.refused(before + "<para></quote>\n", 1000, 7)

    def test_within_boxes(self):
        before = "<section>\n<quote>\n"
        text = before + "<para>" + "a" * 1994 + "</para>\n</quote>\n</section>\n"
        self.assertEqual(len(read_chapter(text)), 2000)
        self.refused(text.replace("</para>", "a</para>"), 3, 7 + 1994)
        self.refused(text.replace("</para>", "<=slant>a</para>"), 3, 7 + 1994 + 8)


class Changed(MarkupCase):
    """Texts with one piece left out, put in, exchanged or told twice, and cut off."""

    def checked(self, text):
        place = expected_place(text)
        if place is None:
            self.assertEqual(write_chapter(read_chapter(text)), text)
        else:
            self.assertError(BadText, {"row": place[0], "column": place[1]}, read_chapter, text)
        return place

    def test_pieces(self):
        others = ["<para>", "</para>", "<list>", "</list>", "<item>", "</item>", "<head1>", "<=code>", "<=>", "<= a#b>", "<#a>",
                  "<!a>", "a", "&l;", "&", "<", "\n", "%", "<x>", ">", "<quote>", "<=slant,code>"]
        wrong = 0
        for seed in range(700):
            chance = random.Random(seed)
            rows = pieces(write_chapter(random_chapter(chance, 5)))
            at = chance.randint(0, len(rows))
            way = chance.randrange(5)
            if way == 0:
                rows[at:at + 1] = []
            elif way == 1:
                rows[at:at] = [chance.choice(others)]
            elif way == 2:
                rows[at:at + 1] = [chance.choice(others)]
            elif way == 3:
                rows[at:at] = rows[at:at + 1]
            else:
                rows[at:at + 2] = rows[at:at + 2][::-1]
            wrong += self.checked("".join(rows)) is not None
        self.assertGreater(wrong, 400)

    def test_characters(self):
        for seed in range(700):
            chance = random.Random(seed)
            text = write_chapter(random_chapter(chance, 5))
            at = chance.randint(0, len(text))
            put = chance.choice(("", "", "a", "<", ">", "&", "\n", "=", " ", "/", ",", "#"))
            self.checked(text[:at] + put + text[at + chance.randint(0, 2):])

    def test_cut_off(self):
        chapter = node("quote", *node("head2", ch("<", "code"), an("a"), ch("b")), *node("list", *node("item")))
        text = write_chapter(chapter)
        for count in range(len(text)):
            self.checked(text[:count])
            self.checked(text[count:])


if __name__ == "__main__":
    unittest.main()
