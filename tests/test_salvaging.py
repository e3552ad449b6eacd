"""Salvaging: the sound entries that are chosen, and the tables that show that no choice has more ([83], [84])."""

import itertools
import random
import unittest

from bookpack.archives import faults, read_archive, write_archive
from bookpack.salvaging import remains, salvage, shows_most
from tests import raw
from tests.making import STRANGE, Case

ONE, TWO, THREE = raw.entry("a", (1, 2, 3)), raw.entry("b", (4,)), raw.entry("c", ())


def best_choice(data):
    """The offsets that [83] tells to choose, out of all choices of sound entries."""
    entries = raw.all_sound(data)
    choices = []
    for count in range(len(entries) + 1):
        for offsets in itertools.combinations(sorted(entries), count):
            if all(entries[one][2] <= other for one, other in zip(offsets, offsets[1:])):
                choices.append((sum(entries[offset][2] - offset for offset in offsets), offsets))
    most = max(octets for octets, _ in choices)
    best = [set(offsets) for octets, offsets in choices if octets == most]
    for offset in sorted(entries):
        # Of those that differ here, the ones that have an entry here stay.
        best = [offsets for offsets in best if offset in offsets] or best
    assert len(best) == 1
    return tuple(sorted(best[0]))


def most_octets(data):
    """The most octets from each offset on, from the right to the left."""
    entries = raw.all_sound(data)
    table = [0]
    for offset in reversed(range(len(data))):
        end = entries[offset][2] if offset in entries else offset + 1
        many = end - offset if offset in entries else 0
        table.append(max(table[-1], many + table[len(data) - end]))
    return tuple(table[::-1])


def overlapping(count, *payloads):
    """Entries that each share their last octets, count of them, with the next one."""
    data = raw.entry("z", payloads[-1])
    offsets = [0]
    for number, payload in enumerate(payloads[-2::-1]):
        made = raw.entry("yxwv"[number], payload + data[:count])
        offsets = [0] + [offset + len(made) - count for offset in offsets]
        data = made + data[count:]
    return data, offsets


class SalvageCase(Case):
    def chosen(self, data, *offsets):
        """Check the choice from data, by its offsets."""
        data = tuple(data)
        there = raw.all_sound(data)
        found = salvage(data)
        self.assertIs(type(found), tuple)
        self.assertEqual(found, tuple((offset, *there[offset][:2]) for offset in offsets))
        self.assertEqual(salvage(data=data), found)
        if len(there) < 12:
            self.assertEqual(best_choice(data), offsets)
        table = remains(data)
        self.assertIs(type(table), tuple)
        self.assertEqual(table, most_octets(data))
        self.assertEqual(table[0], sum(there[offset][2] - offset for offset in offsets))
        self.assertIs(shows_most(data, offsets, table), True)
        return found


class Chosen(SalvageCase):
    def test_nothing(self):
        for data in ((), (0,), (66, 80, 69), (66, 80, 69, 1), (0,) * 100, ONE[:-1], ONE[1:], raw.archive()):
            self.chosen(data)

    def test_one(self):
        self.chosen(ONE, 0)
        self.chosen((0,) + ONE, 1)
        self.chosen(ONE + (0,), 0)
        self.assertEqual(salvage((1, 2) + TWO + (3,)), ((2, "b", (4,)),))
        self.assertEqual(salvage(raw.entry("abc/-.9", ())), ((0, "abc/-.9", ()),))

    def test_one_behind_the_other(self):
        self.chosen(ONE + TWO + THREE, 0, len(ONE), len(ONE + TWO))
        self.chosen(ONE + ONE + ONE, 0, len(ONE), 2 * len(ONE))

    def test_octets_between(self):
        self.chosen((9,) + ONE + (66, 80) + TWO + (66,) + (0,) * 50, 1, len(ONE) + 3)
        self.chosen(raw.archive(("a", (1,)), ("b", (2,))), 0, 13)

    def test_entries_that_break_off(self):
        for count in range(1, len(ONE)):
            self.chosen(ONE[:count])
            self.chosen(ONE[:count] + TWO, count)
            self.chosen(TWO + ONE[:count], 0)
            self.chosen(TWO + ONE[count:] + THREE, 0, len(TWO + ONE[count:]))

    def test_names(self):
        for octet in range(256):
            data = TWO + (66, 80, 69, 1, octet, 0, 0, 0, 0, 0, 0, 7)
            self.chosen(data, *((0, 13) if chr(octet) in "abcdefghijklmnopqrstuvwxyz0123456789./-" else (0,)))
        self.chosen(raw.entry("a" * 40, (1,)), 0)
        self.chosen(raw.entry("a" * 41, (1,)))
        self.chosen(raw.entry("", (1,)))

    def test_checks_and_lengths(self):
        for told in (0, raw.check((1,)) + 1, 7, 4294967295):
            self.chosen(raw.entry("a", (1,), told=told) + TWO, 13)
        for length in (1, 3, 4, 150000, 150001, 16777215):
            self.chosen(raw.entry("a", (1, 2), length=length) + TWO, 14)
        # Shorter by an octet, with the right check for what is left, it is an entry with an octet behind it.
        self.chosen(raw.entry("a", (1, 2), length=1, told=raw.check((1,))) + TWO, 0, 14)

    def test_payloads_that_are_too_long(self):
        for size in (150000, 150001):
            data = raw.entry("a", (3,) * size) + ONE
            wanted = (0, len(data) - 15) if size == 150000 else (len(data) - 15,)
            self.assertEqual(tuple(row[0] for row in salvage(data)), wanted)
            self.assertEqual(remains(data)[0], len(data) if size == 150000 else 15)

    def test_payloads_of_other_entries(self):
        for inner in (ONE, ONE + TWO, (0,) + ONE + (0,), TWO + (7,) + THREE, ONE * 3):
            self.chosen(raw.entry("o", inner), 0)
            self.chosen(TWO + raw.entry("o", inner) + THREE, 0, 13, 13 + 12 + len(inner))

    def test_three_deep(self):
        inner = ONE
        for name in ("x", "y", "z"):
            inner = raw.entry(name, inner)
            self.chosen(inner, 0)
        data = raw.entry("y", raw.entry("x", ONE + TWO) + THREE)
        self.chosen(data, 0)

    def test_a_damaged_outer_entry(self):
        data = raw.entry("y", raw.entry("x", ONE + TWO) + THREE)
        at = len(data) - len(THREE)
        for offset in range(12):
            other = data[:offset] + ((data[offset] + 1) % 256,) + data[offset + 1:]
            if offset != 4:
                self.chosen(other, 12, at)
        # The check of the outermost one is wrong, and that of the next one.
        other = data[:24] + (67,) + data[25:]
        self.chosen(other, 24 + len(ONE), at)
        self.chosen(data[:-1], 12)

    def test_an_archive_in_a_damaged_entry(self):
        inner = write_archive((("a", (1, 2)), ("b", ())))
        outer = write_archive((("one", inner), ("two", (5,))))
        self.chosen(outer, 0, 14 + len(inner))
        at = 14 + len(inner) - 1
        self.chosen(outer[:at] + (outer[at] ^ 1,) + outer[at + 1:], 14, 28, 14 + len(inner))

    def test_within_a_directory(self):
        data, offset = raw.within_directory()
        self.chosen(data, offset)
        self.assertNotEqual(faults(data), [])

    def test_an_archive_gives_its_entries(self):
        entries = (("manifest", ONE), ("b", raw.archive(("c", TWO))), ("d", ()))
        data = write_archive(entries)
        self.assertEqual(tuple(row[1:] for row in self.chosen(data, 0, 34, 34 + 12 + len(entries[1][1]))), entries)


class Overlapping(SalvageCase):
    def test_as_many_octets(self):
        for count in (1, 5, 12, 13):
            data, offsets = overlapping(count, (1, 2), (1, 2) + (0,) * count)
            self.assertEqual(sorted(raw.all_sound(data)), offsets)
            self.assertEqual(raw.sound(data, 0)[2], len(data) - offsets[1])
            self.chosen(data, 0)

    def test_more_octets(self):
        data, offsets = overlapping(5, (1, 2), (1, 2) + (0,) * 6)
        self.chosen(data, offsets[1])
        data, offsets = overlapping(5, (1, 2), (1, 2) + (0,) * 4)
        self.chosen(data, 0)

    def test_three(self):
        data, offsets = overlapping(5, (), (), ())
        self.assertEqual(len(raw.all_sound(data)), 3)
        self.chosen(data, 0, offsets[2])
        # The middle one has as many octets as the two others together, or more.
        data, offsets = overlapping(5, (), (0,) * 7, ())
        self.chosen(data, 0, offsets[2])
        data, offsets = overlapping(5, (), (0,) * 12, ())
        self.chosen(data, 0, offsets[2])
        data, offsets = overlapping(5, (), (0,) * 13, ())
        self.chosen(data, offsets[1])

    def test_four(self):
        data, offsets = overlapping(5, (), (0,) * 5, (0,) * 5, ())
        self.chosen(data, offsets[0], offsets[2])
        data, offsets = overlapping(5, (), (0,) * 5, (), (0,) * 5)
        self.chosen(data, offsets[1], offsets[3])
        data, offsets = overlapping(5, (), (), (), (0,) * 5)
        self.chosen(data, offsets[0], offsets[2])
        data, offsets = overlapping(5, (), (), (), (0,) * 6)
        self.chosen(data, offsets[0], offsets[3])

    def test_the_first_offset_at_which_best_choices_differ(self):
        tie, _ = overlapping(5, (1, 2), (1, 2) + (0,) * 5)
        at = len(tie) + len(TWO)
        self.chosen(tie + TWO + tie, 0, len(tie), at)
        # The first entry alone, or two others of which the first one begins behind it.
        inner = raw.entry("p", ())
        rest = raw.entry("q", (0,) * 7)
        first = raw.entry("o", (0, 0) + inner + rest[:4])
        data = first + rest[4:]
        self.chosen(data, 14, 26)
        rest = raw.entry("q", (0,) * 4)
        first = raw.entry("o", (0, 0) + inner + rest[:2])
        self.assertEqual(len(first), len(inner) + len(rest))
        self.chosen(first + rest[2:], 0)

    def test_random(self):
        seen = set()
        for seed in range(400):
            chance = random.Random(seed)
            data = ()
            for number in range(chance.randint(1, 6)):
                payload = tuple(chance.choices((0, 66), k=chance.randint(0, 6)))
                count = chance.choice((0, 0, 3, 12, len(data)))
                made = raw.entry("abcdef"[number], payload + data[:count])
                data = made + chance.choice(((), (), (1,))) + data[count:]
            if chance.random() < 0.5:
                at = chance.randrange(len(data))
                data = data[:at] + ((data[at] + 1) % 256,) + data[at + 1:]
            offsets = best_choice(data)
            self.chosen(data, *offsets)
            seen.add((len(offsets), len(raw.all_sound(data))))
        self.assertGreater(len(seen), 12)

    def test_what_lies_inside_of_a_payload_has_fewer_octets(self):
        for seed in range(50):
            chance = random.Random(seed)
            data = ONE * chance.randint(1, 3)
            for _ in range(3):
                data = raw.entry("a", data + (0,) * chance.randint(0, 2)) + TWO * chance.randint(0, 1)
            there = raw.all_sound(data)
            for offset, (name, payload, end) in there.items():
                self.assertLess(remains(payload)[0], end - offset)


class Tables(SalvageCase):
    def test_no_octets(self):
        self.assertEqual(remains(()), (0,))
        self.assertEqual(remains(data=(5,)), (0, 0))
        self.assertIs(shows_most((), (), (0,)), True)
        self.assertIs(shows_most((), (), ()), False)
        self.assertIs(shows_most((), (0,), (0,)), False)

    def test_the_number_at_each_offset(self):
        data = (0,) + ONE + (0, 0) + TWO + (0,)
        self.assertEqual(remains(data), (28,) * 2 + (13,) * 17 + (0,) * 14)
        outer = raw.entry("o", TWO + (0,))
        self.assertEqual(remains(outer), (26,) + (13,) * 12 + (0,) * 14)

    def test_tables_that_are_right(self):
        data = ONE + (0,) + TWO
        table = remains(data)
        self.assertIs(shows_most(data, (0, 16), table), True)
        self.assertIs(shows_most(data=data, offsets=(0, 16), thing=table), True)
        self.assertIs(shows_most(data, (0,), table), False)
        self.assertIs(shows_most(data, (16,), table), False)
        self.assertIs(shows_most(data, (), table), False)
        # A table need not have the least numbers behind the first one.
        for at in range(1, 16):
            other = (table[0],) * at + table[at:]
            self.assertIs(shows_most(data, (0, 16), other), True)
        self.assertIs(shows_most(data, (0, 16), (28,) + (16,) * 15 + (13,) + (5,) * 12 + (0,)), False)
        self.assertIs(shows_most(data, (0, 16), (28,) + (13,) * 16 + (5,) * 12 + (0,)), True)

    def test_the_first_number_is_another_one(self):
        data = ONE + (0,) + TWO
        table = remains(data)
        self.assertIs(shows_most(data, (0, 16), (29,) + table[1:]), False)
        self.assertIs(shows_most(data, (16,), (13,) + table[1:]), False)
        self.assertIs(shows_most((0,) * 5, (), (0,) * 6), True)
        self.assertIs(shows_most((0,) * 5, (), (1,) + (0,) * 5), False)

    def test_tables_that_are_too_low_in_one_place(self):
        data = raw.entry("o", TWO) + (0,) + ONE
        table = remains(data)
        self.assertIs(shows_most(data, (0, 26), table), True)
        for at in range(len(table) - 1):
            other = table[:at] + (table[at] - 1,) + table[at + 1:]
            self.assertIs(shows_most(data, (0, 26), other), False)
        # It does not rise, but it is too low for the entry that is not chosen.
        low = table[:1] + (27,) * 12 + table[13:]
        self.assertIs(shows_most(data, (0, 26), low), False)

    def test_tables_with_another_last_number_that_rise_or_have_another_length(self):
        data = (0,) + ONE
        table = remains(data)
        for last in (-1, 1):
            self.assertIs(shows_most(data, (1,), table[:-1] + (last,)), False)
        self.assertIs(shows_most(data, (1,), tuple(number - 1 for number in table)), False)
        for at in range(2, len(table) - 1):
            self.assertIs(shows_most(data, (1,), table[:at] + (1,) + table[at + 1:]), at == 2)
        for other in (table[1:], table[:-1], table + (0,), (table[0],) + table, ()):
            self.assertIs(shows_most(data, (1,), other), False)

    def test_tables_of_no_integers(self):
        data = (0,) + ONE
        table = remains(data)
        for value in STRANGE[:-1] + (None, 15.0, float("nan")):
            for at in (0, 1, 5, len(table) - 1):
                self.assertIs(shows_most(data, (1,), table[:at] + (value,) + table[at + 1:]), False)
        self.assertIs(shows_most((0,), (), (False, 0)), False)
        self.assertIs(shows_most((0,), (), (0, False)), False)
        for other in (list(table), None, 15, "0", {}, object(), set(table), (table,)):
            self.assertIs(shows_most(data, (1,), other), False)

    def test_offsets(self):
        data = ONE + TWO + raw.entry("o", THREE)
        table = remains(data)
        self.assertIs(shows_most(data, (0, 15, 28), table), True)
        for offsets in (
            (), (0,), (0, 15), (15, 28), (0, 15, 40), (0, 15, 28, 40), (28, 15, 0), (0, 28, 15), (0, 15, 15), (0, 0, 15, 28),
            (0, 15, 28, 28), (0, 15, 29), (1, 15, 28), (-1, 15, 28), (0, 15, 28, 52), (0, 15, 28, -24), (False, 15, 28),
            (0, 15.0, 28), (0, 15, "28"), (0, 15, None), ((0, 15, 28),), ("a", "b", "o"), (0, 15, [28]),
        ):
            self.assertIs(shows_most(data, offsets, table), False)
        for offsets in ([0, 15, 28], {0: 1, 15: 1, 28: 1}, {0, 15, 28}, None, 0, "", object(), range(0)):
            self.assertIs(shows_most(data, offsets, table), False)

    def test_offsets_of_entries_that_share_octets(self):
        data, offsets = overlapping(5, (), ())
        # With the octets of both the first number would be right.
        rest = (12,) * 12 + (0,) * 12
        self.assertEqual((len(data), offsets), (24, [0, 12]))
        self.assertIs(shows_most(data, (0, 12), (17 + 12,) + rest), False)
        self.assertIs(shows_most(data, (0,), (17,) + rest), True)

    def test_no_choice_has_more_than_any_table_tells(self):
        for seed in range(200):
            chance = random.Random(seed)
            data = sum(chance.choices((ONE, TWO, raw.entry("o", ONE), (0,)), k=3), ())
            table = list(most_octets(data))
            for at in range(len(table) - 1):
                table[at] += chance.choice((0, 0, 0, 1))
            offsets = best_choice(data)
            if shows_most(data, offsets, tuple(table)):
                self.assertEqual(table[0], remains(data)[0])


class LongData(Case):
    def test_an_entry_of_150000_octets(self):
        payload = tuple(number % 256 for number in range(150000))
        data = write_archive((("a", payload), ("b", (1,))))
        self.assertEqual(faults(data), [])
        self.assertEqual(read_archive(data), (("a", payload), ("b", (1,))))
        self.assertEqual(salvage(data), ((0, "a", payload), (150012, "b", (1,))))
        table = remains(data)
        self.assertEqual(table[:2], (150025, 13))
        self.assertIs(shows_most(data, (0, 150012), table), True)
        other = data[:75000] + (data[75000] ^ 255,) + data[75001:]
        self.assertEqual(faults(other), [("bad entry", 0), ("gap", 0)])
        self.assertEqual(salvage(other), ((150012, "b", (1,)),))

    def test_a_hundred_entries(self):
        entries = tuple((str(number), (number,) * 1500) for number in range(100))
        data = write_archive(entries)
        self.assertEqual(faults(data), [])
        self.assertEqual(read_archive(data), entries)
        self.assertEqual(tuple(row[1:] for row in salvage(data)), entries)
        self.assertIs(shows_most(data, tuple(row[0] for row in salvage(data)), remains(data)), True)

    def test_many_beginnings_of_long_entries(self):
        # Each of them would have all that follows as its payload.
        count = 11000
        data = tuple(octet for _ in range(count) for octet in (66, 80, 69, 1, 97, 1, 0, 0, 0, 0, 0, 0)) + ONE
        self.assertEqual(salvage(data), ((12 * count, "a", (1, 2, 3)),))
        self.assertEqual(remains(data)[0], 15)

    def test_entries_deep_inside_one_another(self):
        data = ONE
        for _ in range(2000):
            data = raw.entry("a", data[:0]) + data
        self.assertEqual(len(salvage(data)), 2001)
        inner = ONE
        for _ in range(300):
            inner = raw.entry("a", inner)
        self.assertEqual([row[0] for row in salvage(inner)], [0])
        self.assertEqual([row[0] for row in salvage(inner[:7] + (0,) + inner[8:])], [12])


if __name__ == "__main__":
    unittest.main()
