"""The examples of README.md."""

import unittest
from pathlib import Path

README = Path(__file__).resolve().parent.parent / "README.md"


class Readme(unittest.TestCase):
    def names(self, *numbers):
        """What the names of examples stand for when these have run one after the other."""
        names = {}
        for number in numbers:
            exec(README.read_text().split("```python\n")[number].split("```")[0], names)
        return names

    def test_chapters(self):
        names = self.names(1)
        chapter, new = names["chapter"], names["new"]
        self.assertEqual([token[1] for token in new], ["para", "a", "para", "head1", "b", "head1"])
        self.assertEqual(names["old"], chapter)
        self.assertEqual(names["patch"].carry(3, after=True), 5)
        self.assertEqual(names["spot_at"](new, 5).text(), "1.1")
        self.assertEqual(names["gap_at"](new, names["Spot"].read("1.1")), 5)
        self.assertEqual(len(names["merged"].result), 7)

    def test_books(self):
        names = self.names(2)
        book, outcome, draft = names["book"], names["outcome"], names["draft"]
        self.assertEqual(names["defects"](book), [])
        self.assertEqual(names["locator"](book, "one", 4), "one@1.0")
        self.assertEqual(names["locate"](book, "one@1.0"), ("one", 4))
        self.assertEqual(outcome.links, [("one", 1, 2, ("one", 1), "kept")])
        self.assertEqual(outcome.carry("one", 4), ("one2", 1))
        self.assertEqual(names["outlined"](outcome.book).book.plain[3], ((0, "A", "one2#top"),))
        self.assertEqual(draft.book, book)
        self.assertIs(draft.redo(), True)
        self.assertEqual(draft.where("here"), ("one", 5))

    def test_archives(self):
        names = self.names(2, 3)
        book, data, damaged, where = names["book"], names["data"], names["damaged"], names["where"]
        self.assertEqual([name for name, _ in names["read_archive"](data)], ["bookpack", "manifest", "chapters/one", "items/fig"])
        self.assertEqual(names["write_chapter"](names["head"]), "<head1><#top>A</head1>\n")
        self.assertEqual(names["judge"](data), [])
        self.assertEqual(names["read_book"](data), book)
        self.assertEqual(names["faults"](damaged), [("bad entry", where), ("gap", where)])
        self.assertEqual(names["recovered"].lost, ("fig",))
        self.assertEqual(names["recover"](damaged, data).lost, ())
        self.assertEqual(names["apply_update"](book, names["update"]), names["recovered"].book)
