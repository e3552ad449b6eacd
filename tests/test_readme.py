"""The example of README.md."""

import unittest
from pathlib import Path

README = Path(__file__).resolve().parent.parent / "README.md"


class Readme(unittest.TestCase):
    def test_example(self):
        code = README.read_text().split("```python\n")[1].split("```")[0]
        names = {}
        exec(code, names)
        chapter, new = names["chapter"], names["new"]
        self.assertEqual([token[1] for token in new], ["para", "a", "para", "head1", "b", "head1"])
        self.assertEqual(names["old"], chapter)
        self.assertEqual(names["patch"].carry(3, after=True), 5)
        self.assertEqual(names["spot_at"](new, 5).text(), "1.1")
        self.assertEqual(names["gap_at"](new, names["Spot"].read("1.1")), 5)
        self.assertEqual(len(names["merged"].result), 7)
