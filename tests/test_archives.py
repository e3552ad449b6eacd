"""Archives: how they are written and read, and the faults of data ([81], [82])."""

import random
import unittest

from bookpack.archives import faults, read_archive, write_archive
from bookpack.errors import BadArchive, BadEntry
from tests import raw
from tests.making import Case

NAME_SIGNS = "abcdefghijklmnopqrstuvwxyz0123456789./-"
SMALL = (("a", (65, 66)), ("b", ()))
ONE, TWO, THREE = raw.entry("a", (1, 2, 3)), raw.entry("b", (4,)), raw.entry("c", ())


def random_entries(chance, many=5):
    names = sorted({"".join(chance.choices("ab1./-", k=chance.randint(1, 6))) for _ in range(chance.randint(0, many))})
    chance.shuffle(names)
    return tuple((name, tuple(chance.choices((0, 66, 80, 69, 255), k=chance.randint(0, 20)))) for name in names)


class ArchiveCase(Case):
    def found(self, data, *wanted):
        """Check the faults of data, and that it is refused for the first one."""
        data = tuple(data)
        self.assertEqual(faults(data), list(wanted))
        self.assertEqual(raw.expected_faults(data), list(wanted))
        if wanted:
            self.assertError(BadArchive, {"word": wanted[0][0], "offset": wanted[0][1]}, read_archive, data)
        else:
            self.assertEqual(write_archive(read_archive(data)), data)


class Written(ArchiveCase):
    def written(self, *entries):
        before = tuple(entries)
        data = write_archive(entries)
        self.assertEqual(data, raw.archive(*entries))
        self.assertEqual(entries, before)
        self.assertIs(type(data), tuple)
        self.assertEqual(faults(data), [])
        self.assertEqual(read_archive(data), entries)
        self.assertIs(type(read_archive(data)), tuple)
        return data

    def test_octet_by_octet(self):
        empty = (66, 80, 68, 0, 0)
        self.assertEqual(self.written(), empty + (66, 80, 90, 0, 0, 0, 0, 0, 5) + raw.big(raw.check(empty), 4))
        body = (66, 80, 69, 1, 97, 0, 0, 0, 0, 0, 0, 7)
        told = (66, 80, 68, 0, 1, 1, 97, 0, 0, 0, 0, 0, 0, 0, 0, 0, 7)
        end = (66, 80, 90, 0, 0, 12, 0, 0, 17) + raw.big(raw.check(told), 4)
        self.assertEqual(self.written(("a", ())), body + told + end)

    def test_the_example(self):
        data = self.written(*SMALL)
        self.assertEqual(len(data), 68)
        self.assertEqual(faults(data), [])
        self.assertEqual(faults(data[:13] + (67,) + data[14:]), [("bad entry", 0), ("gap", 0)])

    def test_by_name(self):
        data = write_archive(entries=SMALL)
        self.assertEqual(faults(data=data), [])
        self.assertEqual(read_archive(data=data), SMALL)

    def test_names(self):
        for size in (1, 2, 39, 40):
            self.written(("a" * size, (1,)))
            self.written(("-" * size, ()), ("a", (1,)))
        for sign in NAME_SIGNS:
            self.written((sign, ()), ("a" + sign + "z", (2,)))
        self.written(*((sign, (number,)) for number, sign in enumerate(NAME_SIGNS)))

    def test_payloads(self):
        for size in (0, 1, 255, 256, 65535, 65536):
            self.written(("a", (200,) * size), ("b", (1,)))
        self.written(("a", tuple(range(256))), ("b", tuple(range(256))))
        # What stands for something elsewhere does not in payloads.
        self.written(("a", raw.archive(*SMALL)), ("b", raw.end(0, ()) * 2), ("c", raw.directory()))

    def test_random(self):
        for seed in range(200):
            self.written(*random_entries(random.Random(seed), 12))

    def test_a_hundred_entries(self):
        entries = tuple((str(number), (number,) * number) for number in range(100))
        self.written(*entries)
        self.assertError(BadEntry, {"number": None}, write_archive, entries + (("a", ()),))
        # Too many comes before all that is wrong with one of them.
        self.assertError(BadEntry, {"number": None}, write_archive, (None,) * 101)
        self.assertError(BadEntry, {"number": 99}, write_archive, entries[:99] + (None,))

    def test_numbers_above_65535(self):
        long = tuple(number % 251 for number in range(70000))
        data = write_archive((("a", long), ("b", (5,)), ("c", ())))
        self.assertEqual(data[5:8], (1, 17, 112))
        self.assertEqual(data[8:12], raw.big(raw.check(long), 4))
        at = 12 + 70000 + 13 + 12
        self.assertEqual(data[at:at + 5], (66, 80, 68, 0, 3))
        self.assertEqual(data[at + 5:at + 17], (1, 97, 0, 0, 0, 1, 17, 112) + raw.big(raw.check(long), 4))
        self.assertEqual(data[at + 17:at + 29], (1, 98, 1, 17, 124, 0, 0, 1) + raw.big(raw.check((5,)), 4))
        self.assertEqual(data[at + 29:at + 41], (1, 99, 1, 17, 137, 0, 0, 0, 0, 0, 0, 7))
        self.assertEqual(data[at + 41:at + 50], (66, 80, 90, 1, 17, 149, 0, 0, 41))
        self.assertEqual(read_archive(data), (("a", long), ("b", (5,)), ("c", ())))


class Refused(ArchiveCase):
    def refused(self, number, *entries):
        self.assertError(BadEntry, {"number": number}, write_archive, entries)
        self.assertError(BadEntry, {"number": number}, write_archive, entries=entries)

    def test_no_tuple(self):
        for value in raw.NO_TUPLES:
            self.assertError(BadEntry, {"number": None}, write_archive, value)
        self.assertError(BadEntry, {"number": None}, write_archive, [("a", ())])

    def test_elements_that_are_no_pairs(self):
        for value in raw.NO_TUPLES + ((), ("a",), ("a", (), ()), ["a", ()], (("a", ()),), ((), "a")):
            self.refused(0, value)
            self.refused(1, ("a", ()), value, None)

    def test_names(self):
        for name in ("", "a" * 41, None, 1, True, b"a", ("a",), ["a"], {}, ("a", "b"), object(), "\u00e9", "a\n", "a b"):
            self.refused(1, ("a", ()), (name, ()), (None, None))
        for number in list(range(256)) + [0xaa, 0xb2, 0x430, 0x661, 0xff41]:
            if chr(number) not in NAME_SIGNS:
                for name in (chr(number), "a" + chr(number), chr(number) + "a"):
                    self.refused(0, (name, ()))

    def test_a_name_that_stood_before(self):
        self.refused(1, ("a", ()), ("a", ()))
        self.refused(2, ("a", ()), ("b", (1,)), ("a", (2,)), ("b", ()))
        self.refused(3, ("a", ()), ("b", ()), ("aa", ()), ("b", ()), None)
        self.assertEqual(len(read_archive(write_archive((("a", ()), ("aa", ()), ("a.", ()), ("a.1", ()))))), 4)

    def test_payloads(self):
        for value in raw.NO_TUPLES:
            self.refused(0, ("a", value))
        for value in raw.NO_OCTETS:
            self.refused(1, ("a", ()), ("b", (0, value)), ("a", ()))

    def test_long_payloads(self):
        self.refused(1, ("b", ()), ("a", (0,) * 150001))
        self.assertEqual(len(write_archive((("a", (0,) * 150000),))), 150000 + 12 + 17 + 13)


class Changed(ArchiveCase):
    def test_each_octet_changed_put_in_and_taken_out(self):
        data = write_archive(SMALL)
        for at in range(len(data)):
            self.assertNotEqual(faults(data[:at] + data[at + 1:]), [])
            for octet in range(256):
                if octet != data[at]:
                    other = data[:at] + (octet,) + data[at + 1:]
                    self.assertNotEqual(faults(other), [])
                    self.assertError(BadArchive, dict(zip(("word", "offset"), faults(other)[0])), read_archive, other)
        for at in range(len(data) + 1):
            for octet in range(256):
                self.assertNotEqual(faults(data[:at] + (octet,) + data[at:]), [])

    def test_what_is_changed_is_told_as_by_the_words_of_the_document(self):
        for seed in range(600):
            chance = random.Random(seed)
            data = list(raw.archive(*random_entries(chance)))
            for _ in range(chance.randint(1, 3)):
                at = chance.randrange(len(data))
                data[at:at + chance.randint(0, 1)] = chance.choices((0, 1, 66, 80, 69, 255), k=chance.randint(0, 1))
            self.assertEqual(faults(tuple(data)), raw.expected_faults(tuple(data)))

    def test_random_rows(self):
        bodies = (ONE, TWO, THREE, (), (0,), ONE[:-1], raw.entry("a", TWO), raw.entry("c", (9,)))
        for seed in range(1500):
            chance = random.Random(seed)
            body = sum(chance.choices(bodies, k=chance.randint(0, 4)), ())
            rows = []
            for _ in range(chance.randint(0, 4)):
                there = raw.all_sound(body)
                offset = chance.choice(list(there) + [0, len(body), 5])
                name, payload, _ = there.get(offset, ("a", (1, 2, 3), 0))
                length = None if chance.random() < 0.8 else chance.randint(0, 30)
                rows.append(raw.row(chance.choice((name, name, name, "b")), offset, payload, length))
            if chance.random() < 0.5:
                rows.sort(key=lambda row: row[2:5])
            data = raw.closed(body, *rows)
            self.assertEqual(faults(data), raw.expected_faults(data))
            if not faults(data):
                self.assertEqual(write_archive(read_archive(data)), data)

    def test_a_new_list_each_time(self):
        data = raw.closed((0,), raw.row("a", 5))
        for _ in range(2):
            found = faults(data)
            self.assertEqual(found, [("bad entry", 5), ("gap", 0)])
            found.clear()


class NoEnd(ArchiveCase):
    def test_short_data(self):
        told = raw.directory()
        data = told + raw.end(0, told)
        self.found(data)
        for count in range(len(data)):
            self.found(data[:count], ("no end", 0))
            self.found(data[len(data) - count:], ("no end", 0))

    def test_an_end_that_is_none(self):
        data = raw.archive(*SMALL)
        for at in (55, 56, 57):
            self.found(data[:at] + (data[at] + 1,) + data[at + 1:], ("no end", 0))
        self.found(data + (0,), ("no end", 0))
        self.found(data[:-1], ("no end", 0))
        self.found((0,) * 13, ("no end", 0))

    def test_a_directory_that_does_not_lie_directly_before_it(self):
        told = raw.directory(raw.row("a", 0, (1, 2, 3)))
        for gap in ((0,), (0,) * 13, told):
            self.found(ONE + told + gap + raw.end(len(ONE), told), ("no end", 0))
        for offset in (0, len(ONE) - 1, len(ONE) + 1, 16777215):
            self.found(ONE + told + raw.end(offset, told), ("no end", 0))
        self.found(ONE + told + raw.end(len(ONE), told[:-1]), ("no end", 0))
        self.found(ONE + told + raw.end(len(ONE), told + (0,)), ("no end", 0))

    def test_it_comes_alone(self):
        told = raw.directory(raw.row("a", 7), count=5)
        self.found((0, 0) + told + raw.end(1, told), ("no end", 0))


class BadDirectory(ArchiveCase):
    def bad(self, told, body=ONE):
        self.found(body + tuple(told) + raw.end(len(body), told), ("bad directory", len(body)))

    def test_a_check_that_differs(self):
        data = raw.archive(*SMALL)
        for at in range(64, 68):
            self.found(data[:at] + ((data[at] + 1) % 256,) + data[at + 1:], ("bad directory", 26))
        for at in range(26, 55):
            self.found(data[:at] + ((data[at] + 1) % 256,) + data[at + 1:], ("bad directory", 26))

    def test_a_directory_that_is_not_formed(self):
        row = raw.row("a", 0, (1, 2, 3))
        told = raw.directory(row)
        self.found(ONE + told + raw.end(len(ONE), told))
        for count in range(len(told)):
            self.bad(told[:count])
        for at in (0, 1, 2):
            self.bad(told[:at] + (told[at] + 1,) + told[at + 1:])
        for count in (0, 2, 3, 100, 101, 256, 257, 513, 65535):
            self.bad(raw.directory(row, count=count))
        for more in ((0,), row, (66,), row[:-1]):
            self.bad(told + more)
        self.bad(())
        self.bad((), ())

    def test_names_in_rows(self):
        numbers = raw.row("a", 0, (1, 2, 3))[2:]
        self.found(raw.closed(ONE, raw.named("z" * 40) + numbers), ("bad entry", 0), ("gap", 0))
        for name in ("", "a" * 41, "a" * 255):
            self.bad(raw.directory(raw.named(name) + numbers))
        for octet in range(256):
            told = raw.directory((1, octet) + numbers)
            if chr(octet) not in NAME_SIGNS:
                self.bad(told)
                self.bad(raw.directory((2, 97, octet) + numbers, raw.row("b", 3)))
            elif chr(octet) != "a":
                self.found(ONE + told + raw.end(len(ONE), told), ("bad entry", 0), ("gap", 0))

    def test_the_number_of_rows(self):
        rows = [raw.row(str(number), 0) for number in range(101)]
        self.found(raw.closed((), *rows[:100]), *[("bad entry", 0)] * 100)
        self.bad(raw.directory(*rows))
        self.bad(raw.directory(*rows[:100], count=99))

    def test_it_comes_alone(self):
        told = raw.directory(raw.row("a", 7), raw.row("b", 3)) + (1,)
        self.bad(told, (0, 0, 0))


class Rows(ArchiveCase):
    body = ONE + TWO + THREE
    at = (0, len(ONE), len(ONE) + len(TWO))
    rows = (raw.row("a", 0, (1, 2, 3)), raw.row("b", len(ONE), (4,)), raw.row("c", len(ONE) + len(TWO), ()))

    def closed(self, *rows, body=None):
        return raw.closed(self.body if body is None else body, *rows)

    def test_good_rows(self):
        self.found(self.closed(*self.rows))
        self.found(raw.closed(()))

    def test_a_row_that_is_missing(self):
        one, two, three = self.rows
        self.found(self.closed(two, three), ("gap", 0))
        self.found(self.closed(one, three), ("gap", self.at[1]))
        self.found(self.closed(one, two), ("gap", self.at[2]))
        self.found(self.closed(one), ("gap", self.at[1]))
        self.found(self.closed(two), ("gap", 0), ("gap", self.at[2]))
        self.found(self.closed(), ("gap", 0))

    def test_gaps(self):
        one, two = (1, 2, 3), (4,)
        rows = (raw.row("a", 2, one), raw.row("b", 2 + len(ONE) + 1, two))
        self.found(self.closed(*rows, body=(0, 0) + ONE + (0,) + TWO + (0,)),
                   ("gap", 0), ("gap", 2 + len(ONE)), ("gap", 3 + len(ONE) + len(TWO)))
        self.found(self.closed(*self.rows, body=self.body + (9,)), ("gap", len(self.body)))
        self.found(self.closed(body=(1,)), ("gap", 0))
        # A gap may be as long as an entry, and it may have one.
        self.found(self.closed(raw.row("b", len(ONE), two), body=ONE + TWO), ("gap", 0))

    def test_rows_in_another_order(self):
        one, two, three = self.rows
        self.found(self.closed(two, one, three), ("gap", 0), ("bad entry", 0))
        self.found(self.closed(one, three, two), ("gap", self.at[1]), ("bad entry", self.at[1]))
        self.found(self.closed(three, two, one),
                   ("gap", 0), ("bad entry", self.at[1]), ("bad entry", 0))

    def test_rows_twice(self):
        one, two, three = self.rows
        self.found(self.closed(one, one, two, three), ("bad entry", 0))
        self.found(self.closed(one, two, two, three), ("bad entry", self.at[1]))
        self.found(self.closed(one, two, three, three), ("bad entry", self.at[2]))

    def test_a_name_twice(self):
        body = ONE + raw.entry("a", (9,)) + THREE
        rows = (raw.row("a", 0, (1, 2, 3)), raw.row("a", len(ONE), (9,)), raw.row("c", len(ONE) + 13))
        self.found(self.closed(*rows, body=body), ("bad entry", len(ONE)), ("gap", len(ONE)))
        # Only an earlier good row takes the name.
        bad = raw.row("a", 1, (9,))
        self.found(self.closed(bad, *rows[:1], body=ONE), ("bad entry", 1))

    def test_an_entry_within_another_one(self):
        outer = raw.entry("c", (0,) + TWO)
        at = len(ONE) + len(outer) - len(TWO)
        rows = (self.rows[0], raw.row("c", len(ONE), (0,) + TWO))
        inner = raw.row("b", at, (4,))
        self.found(self.closed(*rows, body=ONE + outer))
        self.found(self.closed(*rows, inner, body=ONE + outer), ("bad entry", at))
        self.found(self.closed(rows[0], inner, rows[1], body=ONE + outer), ("gap", len(ONE)), ("bad entry", len(ONE)))
        self.found(self.closed(rows[0], inner, body=ONE + outer), ("gap", len(ONE)))

    def test_an_entry_that_reaches_beyond_the_directory(self):
        # The payload goes on up to the octets of its own row; its check is chosen first, so the row can be written.
        for size in (0, 1, 2):
            told = raw.directory(raw.row("a", 0, (5,) * (3 + size)))
            body = raw.entry("a", (5, 5, 5), length=3 + size, told=raw.check((5, 5, 5) + told[:size]))
            told = raw.directory(raw.row("a", 0, (5, 5, 5) + told[:size]))
            data = body + told + raw.end(len(body), told)
            self.assertIsNotNone(raw.sound(data, 0))
            self.found(data, *([("bad entry", 0), ("gap", 0)] if size else []))

    def test_an_entry_within_the_directory(self):
        data, offset = raw.within_directory()
        self.assertIsNotNone(raw.sound(data, offset))
        self.found(data, ("bad entry", 66 * 65536 + 80 * 256 + 69), ("gap", 0))

    def test_offsets_beyond_the_data(self):
        for offset in (len(self.body), len(self.body) + 1, 1000, 65536, 16777215):
            self.found(self.closed(*self.rows, raw.row("d", offset)), ("bad entry", offset))

    def test_an_entry_with_a_payload_that_is_too_long(self):
        for size in (150000, 150001):
            payload = (3,) * size
            body = raw.entry("a", payload)
            data = raw.closed(body, raw.row("a", 0, payload))
            self.found(data, *([("bad entry", 0), ("gap", 0)] if size > 150000 else []))

    def test_another_length_or_check(self):
        one, two, three = self.rows
        for length in (0, 2, 4, 150000, 150001, 16777215):
            bad = raw.row("a", 0, (1, 2, 3), length=length)
            self.found(self.closed(bad, two, three), ("bad entry", 0), ("gap", 0))
        for told in (0, 7, raw.check((1, 2, 3)) + 1, 4294967295):
            bad = raw.row("a", 0, (1, 2, 3), told=told)
            self.found(self.closed(bad, two, three), ("bad entry", 0), ("gap", 0))
        bad = raw.row("aa", 0, (1, 2, 3))
        self.found(self.closed(bad, two, three), ("bad entry", 0), ("gap", 0))

    def test_an_entry_that_is_not_sound(self):
        one, two, three = self.rows
        for at in range(len(ONE)):
            body = self.body[:at] + ((self.body[at] + 1) % 256,) + self.body[at + 1:]
            self.found(self.closed(one, two, three, body=body), ("bad entry", 0), ("gap", 0))

    def test_several_at_once(self):
        one, two, three = self.rows
        bad = raw.row("d", 3)
        self.found(self.closed(bad, two, bad, one, three, two, body=self.body + (0,)),
                   ("bad entry", 3), ("gap", 0), ("bad entry", 3), ("bad entry", 0), ("bad entry", self.at[1]),
                   ("gap", len(self.body)))


if __name__ == "__main__":
    unittest.main()
