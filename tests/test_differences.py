"""Costs, shortest patches, and the tables that show that they are shortest."""

import random
from functools import lru_cache

from bookpack.differences import cost, difference, heights, least_cost, shows_least
from bookpack.errors import BadChapter, TooLong
from bookpack.patches import Patch
from tests.making import BOXES, EXAMPLE, LINES, Case, an, ch, im, joined, line, node, random_chapter

A, B = ch("a"), ch("b")


def step(token, other):
    """What a step costs by [41], None if there is none."""
    if token == other:
        return 0
    if token[0] == other[0] == "char" and token[1] == other[1]:
        return 1
    if token[0] == other[0] and token[0] in ("open", "close"):
        return 1 if (token[1] in BOXES) == (other[1] in BOXES) else None
    return None


def expected_heights(one, other):
    """The least costs, by recursion over the rests of both chapters."""
    @lru_cache(maxsize=None)
    def least(at, to):
        if at == len(one) or to == len(other):
            return len(one) - at + len(other) - to
        ways = [1 + least(at + 1, to), 1 + least(at, to + 1)]
        if step(one[at], other[to]) is not None:
            ways.append(step(one[at], other[to]) + least(at + 1, to + 1))
        return min(ways)

    return tuple(tuple(least(at, to) for to in range(len(other) + 1)) for at in range(len(one) + 1))


def altered(chance, chapter):
    """Another chapter, much like the first one."""
    tokens = list(random_chapter(chance) if chance.random() < 0.3 else chapter)
    for index, token in enumerate(tokens):
        if token[0] == "char" and chance.random() < 0.3:
            tokens[index] = token[:2] + (chance.choice(((), ("code",))),) + token[3:]
    if tokens and chance.random() < 0.5:
        glyphs = [index for index, token in enumerate(tokens) if token[0] not in ("open", "close")]
        if glyphs:
            del tokens[chance.choice(glyphs)]
    return tuple(tokens)


def with_number(table, at, to, number):
    row = table[at][:to] + (number,) + table[at][to + 1:]
    return table[:at] + (row,) + table[at + 1:]


class Costs(Case):
    def test_nothing(self):
        self.assertEqual(cost(Patch(5)), 0)
        self.assertEqual(cost(patch=Patch(0)), 0)

    def test_pieces(self):
        self.assertEqual(cost(Patch(9, ((0, 2, ()), (3, 3, (A, B)), (5, 9, (A,))))), 9)

    def test_changed_tokens_count_once(self):
        self.assertEqual(cost(Patch(9, (), ((1, "code", True), (1, "link", None), (1, "slant", True), (2, "link", None)))), 2)

    def test_together(self):
        self.assertEqual(cost(Patch(9, ((0, 1, (A, A)),), ((1, "code", True), (8, "kind", "para")))), 5)


class Differences(Case):
    def test_equal_chapters(self):
        for chapter in ((), EXAMPLE, line("abc")):
            self.assertEqual(difference(chapter, chapter), Patch(len(chapter)))
            self.assertEqual(least_cost(chapter, chapter), 0)

    def test_an_empty_chapter(self):
        self.assertEqual(difference((), EXAMPLE), Patch(0, ((0, 0, EXAMPLE),)))
        self.assertEqual(difference(EXAMPLE, ()), Patch(6, ((0, 6, ()),)))
        self.assertEqual((least_cost((), EXAMPLE), least_cost(EXAMPLE, ())), (6, 6))
        self.assertEqual(heights((), ()), ((0,),))
        self.assertEqual(heights((), line("a")), ((3, 2, 1, 0),))
        self.assertEqual(heights(line("a"), ()), ((3,), (2,), (1,), (0,)))

    def test_changes_of_a_char(self):
        one, other = node("para", ch("a", "code", link="a#b")), node("para", ch("a", "slant", "strong"))
        changes = ((1, "code", False), (1, "link", None), (1, "slant", True), (1, "strong", True))
        self.assertEqual(difference(one, other), Patch(3, (), changes))
        self.assertEqual(least_cost(one=one, other=other), 1)

    def test_changes_of_kinds(self):
        one, other = joined(line("a"), node("list")), joined(line("a", "head1"), node("quote"))
        changes = ((0, "kind", "head1"), (2, "kind", "head1"), (3, "kind", "quote"), (4, "kind", "quote"))
        self.assertEqual(difference(one, other), Patch(5, (), changes))
        self.assertEqual(least_cost(one, other), 4)

    def test_no_steps(self):
        pairs = (
            (line("a"), line("b"), 2), (node("para", an("a")), node("para", an("b")), 2),
            (node("para", im("a")), node("para", im("b")), 2), (node("para", im("a")), node("para", an("a")), 2),
            (node("para"), node("list"), 4), (node("list"), node("para"), 4), (node("para", im("a")), line("a"), 2),
        )
        for one, other, expected in pairs:
            self.assertEqual(least_cost(one, other), expected)
            self.assertEqual(difference(one, other)(one), other)
            self.assertEqual(difference(one, other).changes, ())

    def test_pieces(self):
        self.assertEqual(difference(line("abc"), line("ac")), Patch(5, ((2, 3, ()),)))
        self.assertEqual(difference(line("ac"), line("abc")), Patch(4, ((2, 2, (B,)),)))
        self.assertEqual(difference(line("abc"), line("axc")), Patch(5, ((2, 3, (ch("x"),)),)))

    def test_steps(self):
        tokens = [(word, kind) for word in ("open", "close") for kind in BOXES + LINES]
        tokens += [A, B, ch("a", "code"), ch("a", link="a#b"), an("a"), an("b"), im("a")]
        for token in tokens:
            for other in tokens:
                if token[0] in ("open", "close") and token[0] == other[0] and "item" not in (token[1], other[1]):
                    one, another = node(token[1]), node(other[1])
                    expected = step(token, other)
                    self.assertEqual(least_cost(one, another), 4 if expected is None else 2 * expected)
                elif token[0] not in ("open", "close") and other[0] not in ("open", "close"):
                    expected = step(token, other)
                    self.assertEqual(least_cost(node("para", token), node("para", other)), 2 if expected is None else expected)
        one = node("list", *node("item"))
        self.assertEqual(least_cost(one, node("section", *node("quote"))), 4)

    def test_against_recursion(self):
        chance = random.Random(40)
        for _ in range(250):
            one = random_chapter(chance)
            other = altered(chance, one)
            patch = difference(one, other)
            table = heights(one, other)
            self.assertEqual(table, expected_heights(one, other))
            self.assertEqual(patch(one), other)
            self.assertEqual(cost(patch), table[0][0])
            self.assertEqual(least_cost(one, other), table[0][0])
            self.assertIs(shows_least(one, other, patch, table), True)
            self.assertEqual(difference(one, other), patch)
            self.assertEqual([type(row) for row in (table, *table)], [tuple] * (len(one) + 2))

    def test_three_hundred_tokens(self):
        one, other = line("ab" * 149), line("ba" * 149)
        self.assertEqual((len(one), len(other)), (300, 300))
        patch = difference(one, other)
        self.assertEqual(patch(one), other)
        self.assertEqual((cost(patch), least_cost(one, other)), (2, 2))
        self.assertIs(shows_least(one, other, patch, heights(one, other)), True)

    def test_too_long(self):
        short, long = line("a" * 298), line("a" * 299)
        for function in (difference, least_cost, heights):
            self.assertError(TooLong, {"number": 0}, function, long, short)
            self.assertError(TooLong, {"number": 1}, function, short, long)
            self.assertError(TooLong, {"number": 0}, function, one=long, other=long)

    def test_no_chapters_come_first(self):
        long = line("a" * 299)
        for value, index in ((None, -1), (list(EXAMPLE), -1), (EXAMPLE[:2], 2)):
            for function, more in ((difference, ()), (least_cost, ()), (heights, ()), (shows_least, (Patch(1), None))):
                self.assertError(BadChapter, {"index": index}, function, value, long, *more)
                self.assertError(BadChapter, {"index": index}, function, long, value, *more)
                self.assertError(BadChapter, {"index": index}, function, value, EXAMPLE[:3], *more)


class ShowsLeast(Case):
    ONE = joined(line("ab"), node("list"))
    OTHER = joined(line("b", "head1"), node("quote"))

    def test_heights(self):
        patch, table = difference(self.ONE, self.OTHER), heights(self.ONE, self.OTHER)
        self.assertIs(shows_least(one=self.ONE, other=self.OTHER, patch=patch, thing=table), True)
        self.assertEqual(table[0][0], 5)

    def test_one_number_raised(self):
        patch, table = difference(self.ONE, self.OTHER), heights(self.ONE, self.OTHER)
        for at, row in enumerate(table):
            for to, number in enumerate(row):
                for much in (1, 9):
                    thing = with_number(table, at, to, number + much)
                    self.assertIs(shows_least(self.ONE, self.OTHER, patch, thing), False, (at, to))

    def test_first_and_last_number_changed(self):
        patch, table = difference(self.ONE, self.OTHER), heights(self.ONE, self.OTHER)
        for at, to in ((0, 0), (-1, -1)):
            for number in (-1, 1, 4, 6):
                thing = with_number(table, at % len(table), to % len(table[0]), number)
                self.assertIs(shows_least(self.ONE, self.OTHER, patch, thing), False)

    def test_one_number_lowered(self):
        # A lower number may still leave a table of heights: by the rules of [41], worked out here.
        patch, table = difference(self.ONE, self.OTHER), heights(self.ONE, self.OTHER)
        found = set()
        for at, row in enumerate(table):
            for to, number in enumerate(row):
                thing = with_number(table, at, to, number - 1)
                expected = self.is_table(thing) and thing[0][0] == cost(patch)
                found.add(expected)
                self.assertIs(shows_least(self.ONE, self.OTHER, patch, thing), expected, (at, to))
        self.assertEqual(found, {True, False})

    def is_table(self, thing):
        for at in range(len(self.ONE) + 1):
            for to in range(len(self.OTHER) + 1):
                bounds = []
                if at < len(self.ONE):
                    bounds.append(thing[at + 1][to] + 1)
                if to < len(self.OTHER):
                    bounds.append(thing[at][to + 1] + 1)
                if at < len(self.ONE) and to < len(self.OTHER) and step(self.ONE[at], self.OTHER[to]) is not None:
                    bounds.append(thing[at + 1][to + 1] + step(self.ONE[at], self.OTHER[to]))
                if bounds and thing[at][to] > min(bounds):
                    return False
        return thing[-1][-1] == 0

    def test_no_tables(self):
        patch, table = difference(self.ONE, self.OTHER), heights(self.ONE, self.OTHER)
        things = [
            None, 0, (), [], "", {}, object(), list(table), table[1:], table + (table[-1],), table[0], ((),) * len(table),
            tuple(list(row) for row in table), tuple(row[1:] for row in table), tuple(row + (0,) for row in table),
            tuple(None for _ in table), with_number(table, -1 % len(table), -1 % len(table[0]), False),
            with_number(table, 0, 0, None), with_number(table, 0, 0, 5.0), with_number(table, 1, 1, "1"),
            with_number(table, 1, 1, (1,)), table[:3] + (None,) + table[4:], table[:3] + (table[3][1:],) + table[4:],
        ]
        for thing in things:
            self.assertIs(shows_least(self.ONE, self.OTHER, patch, thing), False, thing)

    def test_true_is_no_integer(self):
        one, other = line("a"), line("ab")
        patch, table = difference(one, other), heights(one, other)
        self.assertEqual(table[0][0], 1)
        self.assertIs(shows_least(one, other, patch, table), True)
        for at, row in enumerate(table):
            for to, number in enumerate(row):
                if number in (0, 1):
                    self.assertIs(shows_least(one, other, patch, with_number(table, at, to, bool(number))), False)

    def test_numbers_below_0(self):
        one = line("a")
        table = heights(one, one)
        self.assertEqual((table[0][0], table[0][1]), (0, 1))
        self.assertIs(shows_least(one, one, Patch(3), with_number(table, 0, 1, -1)), True)
        self.assertIs(shows_least(one, one, Patch(3), with_number(table, 0, 1, -2)), False)
        self.assertIs(shows_least(one, one, Patch(3), with_number(table, 1, 0, -1)), True)
        self.assertIs(shows_least(one, one, Patch(3), with_number(table, 1, 0, -2)), False)
        put = Patch(0, ((0, 0, one),))
        self.assertIs(shows_least((), one, put, ((3, 2, 1, 0),)), True)
        self.assertIs(shows_least((), one, put, ((-3, -2, -1, 0),)), False)

    def test_patches_that_do_not_lead_there(self):
        table = heights(self.ONE, self.OTHER)
        five = self.ONE[:1] + self.ONE[3:]
        self.assertEqual(len(five), 4)
        for patch in (
            Patch(6), Patch(5), Patch(0), Patch(6, ((0, 1, ()),)), Patch(6, (), ((0, "code", True),)),
            Patch(6, ((1, 3, ()),), ((0, "kind", "head1"), (3, "kind", "head1"), (4, "kind", "section"))),
        ):
            self.assertIs(shows_least(self.ONE, self.OTHER, patch, table), False)
        patch = Patch(6, ((1, 2, ()), (4, 6, node("section"))), ((0, "kind", "head1"), (3, "kind", "head1")))
        self.assertIs(shows_least(self.ONE, self.OTHER, patch, table), False)

    def test_patches_of_the_right_cost_that_do_not_lead_there(self):
        one, other = line("ab"), line("ac")
        table = heights(one, other)
        self.assertEqual(table[0][0], 2)
        for patch in (Patch(4, ((2, 3, (ch("d"),)),)), Patch(4, ((1, 3, ()),)), Patch(4, ((1, 1, (B, B)),)),
                      Patch(4, (), ((0, "kind", "head1"), (3, "kind", "head1")))):
            self.assertEqual(cost(patch), 2)
            self.assertIs(shows_least(one, other, patch, table), False)
        self.assertIs(shows_least(one, other, Patch(4, ((2, 3, (ch("c"),)),)), table), True)

    def test_patches_that_cost_more(self):
        table = heights(self.ONE, self.OTHER)
        patch = Patch(6, ((0, 6, self.OTHER),))
        self.assertEqual(patch(self.ONE), self.OTHER)
        self.assertIs(shows_least(self.ONE, self.OTHER, patch, table), False)
        patch = Patch(6, (), ((1, "code", False),))
        self.assertIs(shows_least(self.ONE, self.ONE, patch, heights(self.ONE, self.ONE)), False)
        self.assertIs(shows_least(self.ONE, self.ONE, Patch(6), heights(self.ONE, self.ONE)), True)

    def test_a_table_with_a_lower_first_number(self):
        table = heights(self.ONE, self.OTHER)
        thing = with_number(table, 0, 0, table[0][0] - 1)
        self.assertIs(shows_least(self.ONE, self.OTHER, difference(self.ONE, self.OTHER), thing), False)

    def test_another_patch_of_least_cost(self):
        one, other = line("aab"), line("ab")
        for patch in (Patch(5, ((1, 2, ()),)), Patch(5, ((2, 3, ()),))):
            self.assertIs(shows_least(one, other, patch, heights(one, other)), True)

    def test_long_chapters(self):
        one, other = line("a" * 320), line("a" * 321)
        last = len(other)
        table = tuple(tuple(abs((last - to) - (len(one) - at)) for to in range(last + 1)) for at in range(len(one) + 1))
        self.assertIs(shows_least(one, other, Patch(322, ((1, 1, (A,)),)), table), True)
        self.assertIs(shows_least(one, other, Patch(322, ((0, 322, other),)), table), False)
