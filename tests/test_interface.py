"""Every name of the interface: that it is defined where it is listed, and takes its parameters by their names."""

import importlib
import inspect
import unittest

from bookpack import errors

FUNCTIONS = {
    "chapters": ("is_token(value)", "is_link(value)", "is_id(value)", "first_bad(value)"),
    "spots": ("spot_at(chapter, gap)", "gap_at(chapter, spot)"),
    "edits": (
        "insert(chapter, gap, tokens)", "delete(chapter, gap, count)", "split(chapter, gap, *, kind=None, levels=1)",
        "join(chapter, gap)", "wrap(chapter, gap, count, kind)", "unwrap(chapter, gap)", "rename(chapter, gap, kind)",
        "restyle(chapter, start, end, *, link='same', **styles)",
    ),
    "moves": ("moving(chapter, gap, count, to)",),
    "differences": (
        "cost(patch)", "difference(one, other)", "least_cost(one, other)", "heights(one, other)",
        "shows_least(one, other, patch, thing)",
    ),
    "branches": ("merge(chapter, ours, theirs)",),
    "books": ("chain(book, key)", "readable(book, key, *kinds)", "locator(book, key, gap)", "locate(book, text)"),
    "links": ("anchors(chapter)", "links(chapter)", "target(book, link)"),
    "defects": ("defects(book)", "is_sound(book)"),
    "arranging": (
        "split_chapter(book, key, *, level=1)", "join_chapters(book, first, second)", "reorder(book, ids)", "rename(book, names)",
    ),
    "pruning": ("without(book, ids)", "extract(book, ids)"),
    "outlines": ("outline(book, *, levels=3)", "outlined(book, *, levels=3)"),
    "drafts": ("merge_steps(book, ours, theirs)",),
    "octets": ("is_data(value)", "check_of(data)"),
    "archives": ("write_archive(entries)", "faults(data)", "read_archive(data)"),
    "salvaging": ("salvage(data)", "remains(data)", "shows_most(data, offsets, thing)"),
    "markup": ("write_chapter(chapter)", "read_chapter(text)"),
    "manifests": ("write_manifest(book)", "read_manifest(text)"),
    "packing": ("write_book(book)", "read_book(data)"),
    "judging": ("judge(data)", "recover(data, *more)"),
    "updates": (
        "write_patch(patch)", "read_patch(text)", "make_update(old, new)", "judge_update(old, data)", "apply_update(old, data)",
    ),
}
CLASSES = {
    ("spots", "Spot"): ("__init__(self, *steps)", "read(text)", "text(self)", "__eq__(self, other)", "__lt__(self, other)",
                        "__le__(self, other)", "__add__(self, other)"),
    ("patches", "Patch"): ("__init__(self, size, pieces=(), changes=())", "__bool__(self)", "__eq__(self, other)",
                           "__call__(self, chapter)", "undo(self, chapter)", "carry(self, gap, after=False)",
                           "carry_range(self, start, end)", "then(self, other)", "rebase(self, other, *, first=False)"),
    ("moves", "Move"): ("__init__(self, size, start, end, to)", "__call__(self, chapter)", "undo(self)",
                        "carry(self, gap, after=False)", "patch(self, chapter)"),
    ("branches", "Merged"): ("carry(self, side, gap, after=False)",),
    ("books", "Book"): ("__init__(self, *, fields=(), items=(), slots=(), contents=())", "__len__(self)", "__eq__(self, other)",
                        "chapter(self, key)", "with_chapter(self, key, chapter)"),
    ("outcomes", "Outcome"): ("carry(self, key, gap, after=False)",),
    ("drafts", "Draft"): ("__init__(self, book)", "do(self, key, edit)", "undo(self)", "redo(self)", "together(self, function)",
                          "keep(self, name, key, gap, after=False)", "where(self, name)", "forget(self, name)",
                          "incoming(self, key, name)", "broken(self)"),
    ("judging", "Recovered"): (),
}
PROPERTIES = {
    ("spots", "Spot"): ("steps", "parent"),
    ("patches", "Patch"): ("size", "pieces", "changes", "new_size"),
    ("moves", "Move"): ("size", "start", "end", "to"),
    ("books", "Book"): ("plain",),
    ("drafts", "Draft"): ("book", "steps", "later", "log"),
}
ERRORS = (
    "BadChapter(index), BadToken(index), BadKind(kind), BadStyle(word), BadLink(link), BadNumber(name), BadSpot(number),"
    " NoSpot(depth), BadText(row, column), BadPatch(part, number), Misfit(index), Conflict(place), NoNode(gap), TooLong(number),"
    " BadBranch(side, number), Clash(first, second, place), BadBook(part, number), NoItem(key), NoChapter(key), NotInSlots(key),"
    " NotNeighbors(), BadOrder(number), BadNames(number), NoMain(), TooMany(part), Unsound(word, path), Busy(), NoMark(name),"
    " BadOctets(index), BadEntry(number), BadArchive(word, offset), Refused(word, path), Unrecoverable(word)"
)


def module(name):
    return importlib.import_module("bookpack." + name)


def parts_of(told):
    name, _, rest = told.partition("(")
    return name, "(" + rest


class Interface(unittest.TestCase):
    def test_functions(self):
        for name, rows in FUNCTIONS.items():
            for row in rows:
                key, signature = parts_of(row)
                function = getattr(module(name), key)
                self.assertTrue(inspect.isfunction(function), row)
                self.assertEqual(function.__module__, "bookpack." + name)
                self.assertEqual(str(inspect.signature(function)), signature, row)

    def test_classes(self):
        for (name, key), rows in CLASSES.items():
            made = getattr(module(name), key)
            self.assertEqual(made.__module__, "bookpack." + name)
            for row in rows:
                method, signature = parts_of(row)
                self.assertIn(method, vars(made), (key, row))
                self.assertEqual(str(inspect.signature(getattr(made, method))), signature, (key, row))
        # Listed by their signs alone.
        for method in ("__contains__", "__getitem__", "__iter__"):
            self.assertIn(method, vars(module("books").Book))

    def test_properties(self):
        for (name, key), rows in PROPERTIES.items():
            for row in rows:
                self.assertIsInstance(vars(getattr(module(name), key))[row], property)

    def test_generators(self):
        self.assertTrue(inspect.isgeneratorfunction(module("books").chain))

    def test_errors(self):
        for row in ERRORS.split("), "):
            name, _, fields = row.rstrip(")").partition("(")
            error = getattr(errors, name)
            self.assertEqual(error.__module__, "bookpack.errors")
            self.assertEqual(error.__bases__, (errors.BookError,))
            wanted = [field for field in fields.split(", ") if field]
            self.assertEqual(vars(error(*range(len(wanted)))), dict(zip(wanted, range(len(wanted)))))


if __name__ == "__main__":
    unittest.main()
