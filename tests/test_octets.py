"""Octets: what data is, and its check ([80]); and data that is refused by each function that takes some ([2])."""

import random
import unittest

from bookpack.archives import faults, read_archive, write_archive
from bookpack.errors import BadEntry, BadOctets
from bookpack.octets import check_of, is_data
from bookpack.salvaging import remains, salvage, shows_most
from tests import raw
from tests.making import Case


class Octets(Case):
    def test_what_is_data(self):
        for value in ((), (0,), (255,), (0, 255, 1, 1, 128), tuple(range(256)), (7,) * 1000):
            self.assertIs(is_data(value), True)
            self.assertIs(is_data(value=value), True)

    def test_what_is_no_octet(self):
        for value in raw.NO_OCTETS:
            for row in ((value,), (0, value), (value, 0), (1, 2, value, 3), (255,) * 500 + (value,)):
                self.assertIs(is_data(row), False)

    def test_what_is_no_tuple(self):
        for value in raw.NO_TUPLES:
            self.assertIs(is_data(value), False)

    def test_true_and_false_are_no_octets(self):
        self.assertIs(is_data((1, 0)), True)
        self.assertIs(is_data((True, 0)), False)
        self.assertIs(is_data((1, False)), False)


class Checks(Case):
    def test_no_octets(self):
        self.assertEqual(check_of(()), 7)

    def test_one_and_two_octets(self):
        self.assertEqual(check_of((0,)), 7 * 257 + 1)
        self.assertEqual(check_of((255,)), 7 * 257 + 256)
        self.assertEqual(check_of(data=(3, 5)), (7 * 257 + 4) * 257 + 6)

    def test_checks_that_pass_the_modulus(self):
        # With three octets of 255 the check is just below the modulus, with a fourth one it passes it.
        self.assertEqual(check_of((255,) * 3), 7 * 257 ** 3 + 256 * (257 ** 2 + 257 + 1))
        four = 7 * 257 ** 4 + 256 * (257 ** 3 + 257 ** 2 + 257 + 1)
        self.assertGreater(four, 4294967291)
        self.assertEqual(check_of((255,) * 4), four % 4294967291)
        found = check_of((0,) * 1000)
        self.assertEqual(found, raw.check((0,) * 1000))
        self.assertTrue(0 <= found < 4294967291)

    def test_every_length(self):
        chance = random.Random(80)
        for count in list(range(70)) + [127, 128, 129, 1000, 4095]:
            data = tuple(chance.randrange(256) for _ in range(count))
            self.assertEqual(check_of(data), raw.check(data))

    def test_each_octet_and_its_place_counts(self):
        data = (9, 8, 7, 6, 5, 4)
        for at in range(6):
            for octet in range(256):
                other = data[:at] + (octet,) + data[at + 1:]
                self.assertEqual(check_of(other) == check_of(data), other == data)
        self.assertNotEqual(check_of((1, 2)), check_of((2, 1)))
        self.assertNotEqual(check_of((0,)), check_of((0, 0)))


class BadData(Case):
    functions = (
        check_of, faults, read_archive, salvage, remains,
        lambda data: shows_most(data, (0,), (0,)),
        lambda data: shows_most(data, offsets=None, thing=None),
    )

    def test_no_tuple(self):
        for function in self.functions:
            for value in raw.NO_TUPLES:
                self.assertError(BadOctets, {"index": None}, function, value)
                self.assertError(BadOctets, {"index": None}, function, data=value)

    def test_no_octet(self):
        for function in self.functions:
            for value in raw.NO_OCTETS:
                for at in (0, 1, 5, 68):
                    data = raw.archive(("a", (65, 66)), ("b", ()))
                    self.assertError(BadOctets, {"index": at}, function, data[:at] + (value,) + data[at + 1:])
                self.assertError(BadOctets, {"index": 1}, function, (0, value, value, -1))
                self.assertError(BadOctets, {"index": 0}, function, (value,))

    def test_payloads_are_refused_with_their_entry(self):
        for value in raw.NO_OCTETS:
            self.assertError(BadEntry, {"number": 1}, write_archive, (("a", (1,)), ("b", (1, value))))


if __name__ == "__main__":
    unittest.main()
