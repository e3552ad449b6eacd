"""Ids, links, tokens, chapters, and where a value stops being the beginning of a chapter."""

import random
from itertools import combinations, product

from bookpack.chapters import first_bad, is_id, is_link, is_token
from tests.making import (
    BOXES, EXAMPLE, LINES, STRANGE, STYLES, Case, an, ch, cl, im, joined, line, node, op, random_chapter, random_token,
)

PLAIN = "".join(chr(k) for k in range(32, 127) if k != 37)
NOT_PLAIN = ("%", "\n", "\t", "\x1f", "\x7f", "\x80", "\xe4", "\u2003", "\x00")


class Anything:
    """An object that says it equals everything."""

    def __eq__(self, other):
        return True

    def __len__(self):
        return 2

    def __getitem__(self, at):
        return "open"


def parsed(tokens, at, kind, depth):
    """The index behind the children that begin at an index, by plain recursion."""
    while at < len(tokens) and tokens[at][0] != "close":
        word = tokens[at][0]
        if word != "open":
            if kind not in LINES:
                return None
            at += 1
            continue
        inner = tokens[at][1]
        allowed = ("item",) if kind == "list" else () if kind in LINES else ("section", "quote", "list") + LINES
        if inner not in allowed or depth == 12:
            return None
        at = parsed(tokens, at + 1, inner, depth + 1)
        if at is None or at == len(tokens) or tokens[at] != ("close", inner):
            return None
        at += 1
    return at


def is_chapter(tokens):
    """Whether a row of tokens is a chapter, worked out without the program."""
    return len(tokens) <= 2000 and parsed(tokens, 0, None, 0) == len(tokens)


def can_begin(tokens):
    """Whether some chapter begins with the tokens: just the one that closes what is open is tried."""
    kinds = []
    for word, kind in [token[:2] for token in tokens]:
        if word == "open":
            kinds.append(kind)
        elif word == "close" and kinds:
            kinds.pop()
    return is_chapter(tokens + tuple(cl(kind) for kind in reversed(kinds)))


class Ids(Case):
    def test_lengths(self):
        self.assertIs(is_id("a"), True)
        self.assertIs(is_id("a" * 16), True)
        self.assertIs(is_id("a" * 17), False)
        self.assertIs(is_id(""), False)

    def test_characters(self):
        for c in PLAIN + "".join(NOT_PLAIN):
            letter = c in "abcdefghijklmnopqrstuvwxyz"
            self.assertIs(is_id(c), letter, c)
            self.assertIs(is_id("a" + c), letter or c in "0123456789", c)
            self.assertIs(is_id("a" + c + "b"), letter or c in "0123456789", c)
        self.assertIs(is_id("\u0661"), False)
        self.assertIs(is_id("a\u0661"), False)

    def test_other_objects(self):
        for value in STRANGE + (None, ("a",), ["a"], b"a", Anything()):
            self.assertIs(is_id(value), False)

    def test_by_name(self):
        self.assertIs(is_id(value="a"), True)


class Links(Case):
    def test_into_a_book(self):
        for link in ("a#b", "a1#b2", "a" * 16 + "#" + "b" * 16, "out#a"):
            self.assertIs(is_link(link), True, link)
        for link in ("#b", "a#", "#", "ab", "a#b#c", "a##b", "A#b", "1#b", "a#1", "a b#c", "a#b ", "a#B"):
            self.assertIs(is_link(link), False, link)
        self.assertIs(is_link("a" * 17 + "#b"), False)
        self.assertIs(is_link("a#" + "b" * 17), False)

    def test_out_of_a_book(self):
        self.assertIs(is_link("out:"), False)
        self.assertIs(is_link("out:x"), True)
        self.assertIs(is_link("out:" + "x" * 20), True)
        self.assertIs(is_link("out:" + "x" * 21), False)
        self.assertIs(is_link("out:a#b"), True)
        self.assertIs(is_link("out:out:"), True)
        self.assertIs(is_link("Out:x"), False)
        self.assertIs(is_link("out"), False)

    def test_characters_of_out_links(self):
        for c in PLAIN:
            self.assertIs(is_link("out:" + c), c not in " <>&", c)
            self.assertIs(is_link("out:x" + c + "x"), c not in " <>&", c)
        for c in NOT_PLAIN:
            self.assertIs(is_link("out:" + c), False)

    def test_other_objects(self):
        for value in STRANGE + (None, ("a", "b"), b"a#b", Anything()):
            self.assertIs(is_link(value), False)
        self.assertIs(is_link(value="a#b"), True)


class Tokens(Case):
    def test_open_and_close(self):
        for word in ("open", "close"):
            for kind in BOXES + LINES:
                self.assertIs(is_token((word, kind)), True)
                self.assertIs(is_token((word, kind, None)), False)
                self.assertIs(is_token([word, kind]), False)
            for kind in ("", "head", "head4", "Section", "box", "line", None, 1, [], Anything(), ("list",)):
                self.assertIs(is_token((word, kind)), False)

    def test_chars(self):
        for c in PLAIN:
            self.assertIs(is_token(("char", c, (), None)), True, c)
        for c in NOT_PLAIN + ("", "ab", None, 1, b"a", ["a"], ("a",), Anything()):
            self.assertIs(is_token(("char", c, (), None)), False, c)

    def test_styles(self):
        rows = [row for many in range(4) for row in combinations(STYLES, many)]
        for many in range(5):
            for styles in product(STYLES, repeat=many):
                self.assertIs(is_token(("char", "a", styles, None)), styles in rows, styles)
        for styles in (None, [], ["code"], "code", ("bold",), (1,), ([],), ("code", None), {}, (Anything(),)):
            self.assertIs(is_token(("char", "a", styles, None)), False)

    def test_links_of_chars(self):
        for link in ("a#b", "out:x", None):
            self.assertIs(is_token(("char", "a", (), link)), True)
        for link in ("", "a", "same", 0, False, [], Anything()):
            self.assertIs(is_token(("char", "a", (), link)), False)

    def test_anchors_and_images(self):
        for word in ("anchor", "image"):
            for name in ("a", "a" * 16):
                self.assertIs(is_token((word, name)), True)
            for name in ("", "A", "a" * 17, None, 1, ("a",), Anything()):
                self.assertIs(is_token((word, name)), False)
            self.assertIs(is_token((word,)), False)
            self.assertIs(is_token((word, "a", "a")), False)

    def test_other_objects(self):
        for value in STRANGE + (None, (), ("open",), ("char", "a", ()), ("char", "a", (), None, None), ("text", "a")):
            self.assertIs(is_token(value), False)
        for value in (Anything(), (Anything(), "para"), ("open", Anything()), (1, "a"), ("char", "a"), ("ope", "para")):
            self.assertIs(is_token(value), False)
        self.assertIs(is_token(value=op("para")), True)


class FirstBad(Case):
    def test_example(self):
        self.assertIsNone(first_bad(EXAMPLE))
        self.assertIsNone(first_bad(value=EXAMPLE))
        for at in range(1, 6):
            self.assertEqual(first_bad(EXAMPLE[:at]), None if at == 4 else at)

    def test_empty_chapter_and_empty_nodes(self):
        self.assertIsNone(first_bad(()))
        for kind in ("section", "quote", "list") + LINES:
            self.assertIsNone(first_bad(node(kind)))
        self.assertIsNone(first_bad(node("list", *node("item"))))

    def test_no_tuple(self):
        for value in STRANGE + (None, list(EXAMPLE), Anything()):
            self.assertEqual(first_bad(value), -1)

    def test_no_token(self):
        for value in STRANGE + (None, (), ["open", "para"], Anything()):
            self.assertEqual(first_bad((value,)), 0)
            self.assertEqual(first_bad((op("para"), value)), 1)
            self.assertEqual(first_bad(line("ab") + (value,)), 4)

    def test_what_stands_where(self):
        glyphs = (ch("a"), an("a"), im("a"))
        for kind in (None,) + BOXES + LINES:
            around = {None: (), "item": (op("list"), op("item"))}.get(kind, (op(kind),))
            for inner in BOXES + LINES:
                allowed = inner == "item" if kind == "list" else kind not in LINES and inner != "item"
                expected = len(around) + (1 if allowed else 0)
                self.assertEqual(first_bad(around + (op(inner),)), expected, (kind, inner))
            for glyph in glyphs:
                expected = len(around) + (1 if kind in LINES else 0)
                self.assertEqual(first_bad(around + (glyph,)), expected, (kind, glyph))
            for inner in BOXES + LINES:
                found = first_bad(around + (cl(inner), 0))
                self.assertEqual(found, len(around) + (1 if inner == kind else 0), (kind, inner))

    def test_items_outside_of_lists_and_others_in_lists(self):
        self.assertEqual(first_bad(node("item")), 0)
        self.assertEqual(first_bad(node("section", *node("item"))), 1)
        self.assertEqual(first_bad(node("list", *node("item", *node("item")))), 2)
        self.assertEqual(first_bad(node("list", *line("a"))), 1)
        self.assertEqual(first_bad(node("list", *node("list"))), 1)
        self.assertIsNone(first_bad(node("list", *node("item", *node("list", *node("item"))))))

    def test_the_first_fault_counts(self):
        self.assertEqual(first_bad((op("para"), op("para"), 0)), 1)
        self.assertEqual(first_bad((op("para"), 0, op("para"))), 1)
        self.assertEqual(first_bad((cl("para"),)), 0)

    def test_nodes_that_are_open_in_the_end(self):
        self.assertEqual(first_bad((op("para"),)), 1)
        self.assertEqual(first_bad((op("section"), op("list"))), 2)
        self.assertEqual(first_bad((op("section"), op("para"), cl("para"))), 3)

    def test_twelve_open_nodes(self):
        opened = tuple(op("quote") for _ in range(11))
        closed = tuple(cl("quote") for _ in range(11))
        for kind in ("section", "list", "para"):
            self.assertIsNone(first_bad(opened + node(kind) + closed))
        self.assertIsNone(first_bad(opened + line("ab") + node("list") + closed))
        twelve = opened + (op("quote"),)
        self.assertEqual(first_bad(twelve), 12)
        for kind in ("quote", "para", "list"):
            self.assertEqual(first_bad(twelve + (op(kind),)), 12)
            self.assertEqual(first_bad(twelve + node(kind) + (cl("quote"),) + closed), 12)
        self.assertEqual(first_bad(opened + (op("list"), op("item"))), 12)

    def test_two_thousand_tokens(self):
        self.assertIsNone(first_bad(line("a" * 1998)))
        self.assertEqual(first_bad(line("a" * 1999)), 1999)
        self.assertIsNone(first_bad(tuple(line("")) * 1000))
        self.assertEqual(first_bad(tuple(line("")) * 1001), 2000)

    def test_room_for_close_tokens(self):
        complete = line("") * 999
        self.assertEqual(len(complete), 1998)
        opened = complete + (op("para"),)
        self.assertEqual(first_bad(opened), 1999)
        self.assertIsNone(first_bad(opened + (cl("para"),)))
        for token in (ch("a"), an("a"), im("a")):
            self.assertEqual(first_bad(opened + (token,)), 1999)
        self.assertEqual(first_bad(complete + (op("section"), op("section"))), 1999)
        self.assertEqual(first_bad(line("a" * 1997) + (op("para"),)), 1999)
        self.assertEqual(first_bad((op("section"), op("para")) + (ch("a"),) * 1997), 1998)
        self.assertEqual(first_bad((op("section"), op("para")) + (ch("a"),) * 1996), 1998)
        self.assertEqual(first_bad((op("section"),) + line("") * 998 + (op("para"), op("para"))), 1998)
        self.assertEqual(first_bad((op("section"),) + line("") * 998 + node("para") + (op("para"),)), 1999)

    def test_against_plain_recursion(self):
        chance = random.Random(12)
        for _ in range(600):
            tokens = random_chapter(chance)
            self.assertTrue(is_chapter(tokens))
            self.assertIsNone(first_bad(tokens))
            rows = list(tokens)
            for _ in range(chance.randint(1, 2)):
                at = chance.randint(0, len(rows))
                rows[at:at + chance.randint(0, 1)] = [random_token(chance)] * chance.randint(0, 1)
            value = tuple(rows)
            expected = None if is_chapter(value) else len(value)
            for at in range(len(value)):
                if not can_begin(value[:at + 1]):
                    expected = at
                    break
            self.assertEqual(first_bad(value), expected, value)

    def test_each_index_of_a_chapter_can_be_the_bad_one(self):
        whole = joined(line("ab", "head1"), node("list", *node("item", *line("c"))), node("section"))
        for at in range(len(whole) + 1):
            self.assertEqual(first_bad(whole[:at] + (("none",),) + whole[at:]), at)
            if at < len(whole):
                value = whole[:at] + (cl("head3"),) + whole[at:]
                self.assertEqual(first_bad(value), at)
