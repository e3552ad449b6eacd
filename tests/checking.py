"""What every outcome of a transformation has to fulfil ([60])."""

from bookpack.books import Book
from bookpack.defects import defects
from bookpack.errors import BadNumber, NoChapter, NoItem, Unsound
from bookpack.links import links, target
from tests.making import FIELDS, Case

BLANK = ("char", " ", (), None)
UNSOUND = Book(fields=FIELDS[:2] + (("title", ""),))


def chapters(book):
    return [(key, content) for key, kind, content, _ in book.plain[1] if kind == "chapter"]


def told(book):
    """The links of all chapters of a book."""
    return [(key, *row) for key, content in chapters(book) for row in links(content)]


def blurred(token):
    """A token without what a transformation may change in it."""
    if token[0] == "char":
        return token[:3]
    return token[0] if token[0] in ("anchor", "image") else token


class OutcomeCase(Case):
    def check(self, book, outcome, gone=()):
        """Check an outcome for a book, and return it; gone has the ids of the items that were taken out."""
        self.assertEqual(defects(outcome.book), [])
        self.check_links(book, outcome)
        self.check_places(book, outcome, gone)
        return outcome

    def check_links(self, book, outcome):
        found = outcome.links
        self.assertIsInstance(found, list)
        self.assertEqual([row[:3] for row in found], [row[:3] for row in told(book)])
        kept = []
        for key, start, end, place, word in found:
            old = book.chapter(key)[start][3]
            self.assertEqual(place, outcome.carry(key, start, after=True))
            self.assertEqual(place is None, word == "gone")
            if word == "gone":
                continue
            new = outcome.book.chapter(place[0])[place[1]][3]
            if word == "broken":
                self.assertFalse(old.startswith("out:"))
                for gap in range(start, end):
                    at, index = outcome.carry(key, gap, after=True)
                    self.assertIsNone(outcome.book.chapter(at)[index][3])
                continue
            self.assertEqual(word, "kept")
            if old.startswith("out:"):
                self.assertEqual(new, old)
            else:
                self.assertEqual(target(outcome.book, new), outcome.carry(*target(book, old), after=True))
            kept.append((place[0], place[1], place[1] + end - start, new))
        self.assertEqual(sorted(kept), sorted(told(outcome.book)))
        found.append(None)
        self.assertEqual(outcome.links, found[:-1])

    def check_places(self, book, outcome, gone):
        ids = [item[0] for item in outcome.book.plain[1]]
        for key, content in chapters(book):
            if key in gone:
                for gap in range(len(content) + 1):
                    self.assertIsNone(outcome.carry(key, gap))
                    self.assertIsNone(outcome.carry(key, gap, after=True))
                continue
            before = (-1, -1)
            for gap in range(len(content) + 1):
                for after in (False, True):
                    new, at = outcome.carry(key, gap, after)
                    self.assertTrue(0 <= at <= len(outcome.book.chapter(new)))
                    self.assertLessEqual(before, (ids.index(new), at))
                    before = (ids.index(new), at)
                # What is not True itself counts as False.
                self.assertEqual(outcome.carry(key, gap, 1), outcome.carry(gap=gap, key=key))
                if gap < len(content):
                    token = outcome.book.chapter(new)[at]
                    is_lost = content[gap][0] == "image" and content[gap][1] in gone
                    self.assertEqual(token if is_lost else blurred(token), BLANK if is_lost else blurred(content[gap]))

    def check_carry_refuses(self, book, outcome):
        for key in ("nothing", None, 1, ["a"]):
            self.assertError(NoItem, {"key": key}, outcome.carry, key, -1)
        for key, kind, content, _ in book.plain[1]:
            if kind != "chapter":
                self.assertError(NoChapter, {"key": key}, outcome.carry, key, -1)
                continue
            for gap in (-1, len(content) + 1, None, True, "0"):
                self.assertError(BadNumber, {"name": "gap"}, outcome.carry, key, gap)

    def check_unsound_first(self, function, *args, **more):
        """Unsound comes before all other errors, whatever the arguments are."""
        path = ("fields", 2)
        self.assertError(Unsound, {"word": "bad value", "path": path}, function, UNSOUND, *args, **more)
