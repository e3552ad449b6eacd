"""Updates: archives that make a new book of an old one, and all that is wrong with them ([93], [94])."""

import random
import unittest

from bookpack.archives import read_archive
from bookpack.books import Book
from bookpack.defects import defects
from bookpack.differences import cost, least_cost
from bookpack.errors import BadOctets, BookError, Refused
from bookpack.manifests import write_manifest
from bookpack.octets import check_of
from bookpack.packing import write_book
from bookpack.patches import Patch
from bookpack.updates import apply_update, judge_update, make_update, read_patch, write_patch
from tests import raw
from tests.making import FIELDS, Case, an, book_of, ch, im, joined, line, node, random_book, random_parts

OLD = Book(
    fields=FIELDS,
    items=(("one", "chapter", line("ab"), None), ("fig", "figure", "a figure", "one"), ("two", "chapter", line("cd"), None)),
    slots=(("one", True), ("two", False)),
)
NEW = Book(
    fields=FIELDS[:2] + (("title", "New"),),
    items=(("one", "chapter", joined(line("axb"), line("y")), None), ("fig", "figure", "another", "one"),
           ("two", "chapter", line("cd"), None)),
    slots=(("two", True), ("one", True)),
    contents=((0, "A", "one#x"),),
)
UPDATE = read_archive(make_update(OLD, NEW))
NAMES = [name for name, _ in UPDATE]


def text_of(payload):
    return "".join(chr(octet) for octet in payload)


def edited(**payloads):
    """The entries of the update with other payloads, as texts or octets: of base, manifest, one, fig and two."""
    short = {"one": "patches/one", "fig": "items/fig", "two": "patches/two"}
    given = {short.get(key, key): raw.octets(value) if isinstance(value, str) else tuple(value) for key, value in payloads.items()}
    return [(name, given.get(name, payload)) for name, payload in UPDATE]


def expected_entries(old, new):
    """The entries of an update but for the patches, which are None, straight from the words of [93]."""
    entries = [("bookupdate", (49,)), ("base", raw.octets(str(raw.check(write_book(old))))),
               ("manifest", raw.octets(write_manifest(new)))]
    packed = read_archive(write_book(new))[2:]
    seen = set()
    for (key, kind, content, _), entry in zip(new.plain[1], packed):
        before = [item for item in old.plain[1] if item[0] == key][:1]
        is_short = kind == "chapter" and len(content) <= 300
        was_short = bool(before) and before[0][1] == "chapter" and len(before[0][2]) <= 300
        entries.append(("patches/" + key, None) if is_short and was_short and key not in seen else entry)
        seen.add(key)
    return entries


class UpdateCase(Case):
    def updated(self, old, new):
        """Check the update from an old book to a new one, and return its entries."""
        before = old.plain, new.plain
        data = make_update(old, new)
        self.assertEqual(make_update(new=new, old=old), data)
        entries = read_archive(data)
        wanted = expected_entries(old, new)
        self.assertEqual([name for name, _ in entries], [name for name, _ in wanted])
        for (name, payload), (_, told) in zip(entries, wanted):
            if told is not None:
                self.assertEqual(payload, told)
                continue
            key = name.split("/")[1]
            patch = read_patch(text_of(payload))
            self.assertEqual(patch(old.chapter(key)), new.chapter(key))
            self.assertEqual(cost(patch), least_cost(old.chapter(key), new.chapter(key)))
        self.assertEqual(judge_update(old, data), [])
        self.assertEqual(apply_update(old, data), new)
        self.assertEqual(apply_update(data=data, old=old).plain, new.plain)
        self.assertEqual((old.plain, new.plain), before)
        return entries

    def found(self, entries, *wanted, old=OLD):
        """Check what is wrong with an update of these entries, or with data."""
        data = entries if isinstance(entries, tuple) else raw.archive(*entries)
        self.assertEqual(judge_update(old, data), list(wanted))
        found = judge_update(data=data, old=old)
        self.assertEqual(found, list(wanted))
        found.append(None)
        self.assertEqual(judge_update(old, data), list(wanted))
        if wanted:
            self.assertError(Refused, {"word": wanted[0][0], "path": wanted[0][1]}, apply_update, old, data)
        else:
            apply_update(old, data)


class Made(UpdateCase):
    def test_octet_by_octet(self):
        one = "size 4\ncut 2 2\nchar - - x\ncut 4 4\nopen para\nchar - - y\nclose para\n"
        self.assertEqual(self.updated(OLD, NEW), (
            ("bookupdate", (49,)),
            ("base", raw.octets(str(check_of(write_book(OLD))))),
            ("manifest", raw.octets(write_manifest(NEW))),
            ("patches/one", raw.octets(one)),
            ("items/fig", raw.octets("another")),
            ("patches/two", raw.octets("size 4\n")),
        ))

    def test_nothing_is_different(self):
        for book in (OLD, NEW, Book()):
            for name, payload in self.updated(book, book):
                if name.startswith("patches/"):
                    self.assertEqual(text_of(payload), f"size {len(book.chapter(name[8:]))}\n")

    def test_chapters_that_are_changed(self):
        chapters = ((), line("ab"), line("ba"), node("quote", *line("ab")), node("para", ch("a", "code"), ch("b", link="a#b")),
                    node("head1", an("x"), im("f"), ch(" ")), joined(node("list", *node("item")), line("b")))
        for one in chapters:
            for other in chapters:
                self.updated(OLD.with_chapter("one", one), NEW.with_chapter("one", other))

    def test_parts_that_are_changed(self):
        fields, items, slots, contents = NEW.plain
        for made in (
            Book(), Book(fields=(("x", " "),)), Book(items=items), Book(slots=slots), Book(contents=contents),
            Book(fields=fields, items=items[::-1], slots=slots[::-1]), Book(items=items[1:]), Book(items=items * 2),
            Book(items=(("new", "chapter", line("q"), None), *items, ("zz", "scene", "", "new"))),
        ):
            self.updated(OLD, made)
            self.updated(made, OLD)
            self.updated(made, NEW)

    def test_items_that_were_no_chapter_before(self):
        rows = (("one", "figure", "a", None), ("fig", "chapter", line("f"), None), ("two", "chapter", line("c"), None))
        self.assertEqual([name for name, _ in self.updated(OLD, Book(items=rows))][3:], ["items/one", "chapters/fig", "patches/two"])
        self.assertEqual([name for name, _ in self.updated(Book(items=rows), OLD)][3:], ["chapters/one", "items/fig", "patches/two"])
        rows = (("one", "scene", "a", None), ("new", "chapter", (), None))
        self.assertEqual([name for name, _ in self.updated(OLD, Book(items=rows))][3:], ["items/one", "chapters/new"])

    def test_ids_told_twice(self):
        a, b = ("a", "chapter", line("a"), None), ("a", "chapter", line("b"), None)
        text = ("a", "figure", "text", None)
        for old, new, names in (
            ((a,), (a, b), ["patches/a", "chapters/a.1"]),
            ((a, b), (b, a), ["patches/a", "chapters/a.1"]),
            ((a, b), (b,), ["patches/a"]),
            ((a, text), (b,), ["patches/a"]),
            ((text, a), (b,), ["chapters/a"]),
            ((text, a), (text, b), ["items/a", "chapters/a.1"]),
            ((a,), (text, b, b), ["items/a", "chapters/a.1", "chapters/a.2"]),
            ((a, a), (a, text, b), ["patches/a", "items/a.1", "chapters/a.2"]),
        ):
            self.assertEqual([name for name, _ in self.updated(Book(items=old), Book(items=new))][3:], names)

    def test_long_chapters(self):
        short, long = line("a" * 298), line("a" * 299)
        self.assertEqual((len(short), len(long)), (300, 301))
        for old, new, name in ((short, short, "patches/a"), (short, long, "chapters/a"), (long, short, "chapters/a"),
                               (long, long, "chapters/a"), ((), short, "patches/a"), (short, (), "patches/a"), (long, (), "chapters/a")):
            self.assertEqual(self.updated(book_of({"a": old}), book_of({"a": new}))[3][0], name)

    def test_random(self):
        for seed in range(60):
            one, other = random.Random(seed), random.Random(seed + 1)
            self.updated(random_book(one), random_book(other))
            self.updated(random_parts(one), random_parts(other))
            self.updated(random_book(one), random_parts(other))

    def test_forty_chapters(self):
        old = book_of({f"i{number}": line("ab" * number) for number in range(40)})
        new = book_of({f"i{number}": line("ba" * number) for number in range(40)})
        self.updated(old, new)


class Faults(UpdateCase):
    def test_each_word(self):
        data = make_update(OLD, NEW)
        self.found((), ("no end", (0,)))
        self.found(data[:-1], ("no end", (0,)))
        self.found(data[:-1] + ((data[-1] + 1) % 256,), ("bad directory", (int.from_bytes(data[-10:-7], "big"),)))
        self.found(data[:1] + (0,) + data[2:], ("bad entry", (0,)), ("gap", (0,)))
        self.found(raw.closed((0, 0)), ("gap", (0,)))

    def test_each_octet_changed(self):
        data = make_update(book_of({"a": line("a")}), book_of({"a": line("b")}))
        for at in range(len(data)):
            other = data[:at] + ((data[at] + 1) % 256,) + data[at + 1:]
            self.assertIn(judge_update(OLD, other)[0][0], ("no end", "bad directory", "bad entry"))


class Kinds(UpdateCase):
    def test_the_first_entry(self):
        rest = UPDATE[1:]
        for first in (("bookpack", (49,)), ("bookupdate", (50,)), ("bookupdate", ()), ("bookupdate", (49, 49)), ("a", ())):
            self.found([first, *rest], ("bad kind", ()))
        self.found(list(rest), ("bad kind", ()))
        self.found([rest[0], UPDATE[0], *rest[1:]], ("bad kind", ()))

    def test_what_is_not_there(self):
        first, base, manifest, *rest = UPDATE
        self.found([first, manifest, *rest], ("no base", ()))
        self.found([first, base, *rest], ("no manifest", ()))
        self.found([first], ("no base", ()), ("no manifest", ()))
        self.found([], ("bad kind", ()), ("no base", ()), ("no manifest", ()))
        self.found([base], ("bad kind", ()), ("no manifest", ()))
        self.found([manifest], ("bad kind", ()), ("no base", ()))
        self.found([first, ("base.1", ()), ("manifests", ())], ("no base", ()), ("no manifest", ()))

    def test_the_archive_of_a_book(self):
        self.found(write_book(NEW), ("bad kind", ()), ("no base", ()))

    def test_they_come_alone(self):
        self.found([("a", ()), ("base", ()), ("manifest", (0,))], ("bad kind", ()))


class Rows(UpdateCase):
    def test_bad_rows(self):
        manifest = write_manifest(NEW)
        self.found(edited(manifest="x\n" + manifest), ("bad row", (1,)))
        self.found(edited(manifest=manifest + "x"), ("bad row", (10,)))
        self.found(edited(manifest=manifest[:-1]), ("bad row", (9,)))
        self.found(edited(manifest=raw.octets(manifest[:3]) + (0,) + raw.octets(manifest[3:] + "entry 2 a#b x\n")),
                   ("bad row", (1,)), ("bad row", (10,)))

    def test_they_come_alone(self):
        self.found(edited(manifest="x\n", base="", one="", fig=(0,))[:4], ("bad row", (1,)))


class Names(UpdateCase):
    def replaced(self, name, *entries):
        """The entries with others in place of the one with this name."""
        rows = []
        for entry in UPDATE:
            rows.extend(entries if entry[0] == name else [entry])
        return rows

    def test_missing_entries(self):
        self.found(self.replaced("patches/one"), ("missing entry", ("chapters/one",)))
        self.found(self.replaced("items/fig"), ("missing entry", ("items/fig",)))
        self.found(list(UPDATE[:3]), *[("missing entry", (name,)) for name in ("chapters/one", "items/fig", "chapters/two")])

    def test_needless_entries(self):
        for name in ("a", "bookpack", "chapters/three", "patches/three", "patches/fig", "items/one", "patches/one.0", "chapters/one.1",
                     "chapters/fig", "patches/two.2"):
            for at in (1, 3, 4, 6):
                entries = list(UPDATE)
                entries.insert(at, (name, ()))
                self.found(entries, ("needless entry", (name,)))

    def test_patches_are_enough_for_chapters(self):
        chapter = ("chapters/one", raw.octets("<para>zz</para>\n"))
        patch = UPDATE[3]
        self.found(self.replaced("patches/one", chapter))
        made = apply_update(OLD, raw.archive(*self.replaced("patches/one", chapter)))
        self.assertEqual(made, NEW.with_chapter("one", line("zz")))
        self.found(self.replaced("patches/one", patch, chapter), ("needless entry", ("chapters/one",)))
        self.found(self.replaced("patches/one", chapter, patch), ("needless entry", ("chapters/one",)))
        self.found(self.replaced("patches/one", ("items/one", ())),
                   ("missing entry", ("chapters/one",)), ("needless entry", ("items/one",)))

    def test_patches_are_enough_for_long_chapters(self):
        old = book_of({"a": line("a" * 500)})
        entries = list(read_archive(make_update(old, old)))
        self.assertEqual(entries[3][0], "chapters/a")
        entries[3] = ("patches/a", raw.octets("size 502\ncut 1 501\n"))
        self.found(entries, old=old)
        self.assertEqual(apply_update(old, raw.archive(*entries)), book_of({"a": line("")}))

    def test_patches_are_for_first_items_that_are_chapters(self):
        manifest = raw.octets("item a figure\nitem a chapter\nitem b chapter\nitem b chapter\n")
        old = Book(items=(("a", "chapter", line("a"), None), ("b", "chapter", line("b"), None)))
        head = [("bookupdate", (49,)), ("base", raw.octets(str(raw.check(write_book(old))))), ("manifest", manifest)]
        rows = [("items/a", ()), ("chapters/a.1", ()), ("patches/b", raw.octets("size 3\n")), ("chapters/b.3", ())]
        self.found(head + rows, old=old)
        for number, name, missing in ((0, "patches/a", "items/a"), (1, "patches/a", "chapters/a.1"), (1, "patches/a.1", "chapters/a.1"),
                                      (3, "patches/b.3", "chapters/b.3")):
            other = list(rows)
            other[number] = (name, raw.octets("size 3\n"))
            self.found(head + other, ("missing entry", (missing,)), ("needless entry", (name,)), old=old)

    def test_both(self):
        self.found(self.replaced("patches/two", ("z", ()), ("patches/fig", ())), ("missing entry", ("chapters/two",)),
                   ("needless entry", ("z",)), ("needless entry", ("patches/fig",)))

    def test_misplaced_entries(self):
        first, base, manifest, one, fig, two = UPDATE
        self.found([first, manifest, base, one, fig, two], ("misplaced entry", ("manifest",)))
        self.found([first, base, one, manifest, fig, two], ("misplaced entry", ("patches/one",)))
        self.found([first, base, manifest, two, fig, one], ("misplaced entry", ("patches/two",)))
        self.found([first, base, manifest, one, two, fig], ("misplaced entry", ("patches/two",)))
        chapter = ("chapters/two", ())
        self.found([first, base, manifest, one, chapter, fig], ("misplaced entry", ("chapters/two",)))

    def test_they_come_alone(self):
        entries = edited(base="1", one="x", fig=(0,), two="size 1\n")
        self.found(entries + [("z", ())], ("needless entry", ("z",)))
        self.found(entries[:4], ("missing entry", ("items/fig",)), ("missing entry", ("chapters/two",)))
        self.found(entries[:3] + entries[:2:-1], ("misplaced entry", ("patches/two",)))


class Contents(UpdateCase):
    def test_bad_octets_in_patches(self):
        text = raw.octets("size 4\n")
        for octet in (0, 9, 13, 31, 37, 127, 128, 255):
            for at in range(len(text) + 1):
                self.found(edited(two=text[:at] + (octet,) + text[at:]), ("bad octet", ("patches/two", at)))
            self.found(edited(two=(88, 10) + (octet,) + (10, octet)), ("bad octet", ("patches/two", 2)))

    def test_bad_patches(self):
        for text, row in (("", 1), ("size 4", 1), ("size 04\n", 1), ("x\n", 1), ("size 4\ncut 0 5\n", 2), ("size 4\ncut 0 0\n", 3),
                          ("size 4\ncut 0 1\nset 0 code yes\n", 3), ("size 4\n\n", 2), ("size 4\nx", 2), ("size 2001\n", 1)):
            self.found(edited(two=text), ("bad patch", ("patches/two", row)))

    def test_what_is_wrong_as_in_books(self):
        self.found(edited(fig=(65, 10)), ("bad octet", ("items/fig", 1)))
        self.found(edited(fig="a" * 2001), ("too long", ("items/fig",)))
        entries = [("chapters/one", raw.octets("<para>")) if name == "patches/one" else (name, payload) for name, payload in UPDATE]
        self.found(entries, ("bad markup", ("chapters/one", 1, 7)))

    def test_for_each_item_in_order(self):
        self.found(edited(one="", fig=(10,), two=(0,)),
                   ("bad patch", ("patches/one", 1)), ("bad octet", ("items/fig", 0)), ("bad octet", ("patches/two", 0)))

    def test_they_come_before_the_base_and_misfits(self):
        self.found(edited(base="1", one="size 9\n", two="x\n"), ("bad patch", ("patches/two", 1)))


class Bases(UpdateCase):
    def test_another_old_book(self):
        data = make_update(OLD, NEW)
        for book in (NEW, Book(), OLD.with_chapter("two", ()), Book(items=OLD.plain[1])):
            self.found(data, ("other base", ()), old=book)

    def test_other_payloads(self):
        base = str(check_of(write_book(OLD)))
        self.found(edited(base=base))
        for text in ("", "0", "0" + base, "+" + base, "-" + base, " " + base, base + " ", base + "\n", base[:-1], base + "0", "1" * 5000,
                     "0" * 5000 + base, "x", str(int(base) + 1), str(int(base) + 4294967291), base + ".0", hex(int(base))):
            self.found(edited(base=text), ("other base", ()))
        for octets in ((0,), (37,), (255,) * 10, tuple(int(base).to_bytes(4, "big")), (0,) + raw.octets(base), tuple(map(int, base))):
            self.found(edited(base=octets), ("other base", ()))

    def test_it_comes_before_misfits(self):
        self.found(edited(base="1", one="size 9\n"), ("other base", ()))

    def test_an_old_book_with_defects(self):
        old = Book(items=(("a", "chapter", line("a"), None),) * 2)
        self.assertNotEqual(defects(old), [])
        self.found(make_update(old, NEW), old=old)


class Misfits(UpdateCase):
    def test_patches_that_cannot_be_applied(self):
        self.assertEqual(len(OLD.chapter("one")), 4)
        for text in ("size 3\n", "size 5\n", "size 4\nset 0 code yes\n", "size 4\nset 1 kind para\n", "size 4\ncut 0 1\n",
                     "size 4\ncut 4 4\nopen para\n", "size 4\nset 0 kind quote\n", "size 4\ncut 4 4\nanchor a\n"):
            self.found(edited(one=text), ("misfit", ("patches/one",)))
            self.found(edited(one=text, two=text), ("misfit", ("patches/one",)), ("misfit", ("patches/two",)))
        for text in ("size 4\n", "size 4\nset 1 code yes\n", "size 4\nset 0 kind head1\nset 3 kind head1\n", "size 4\ncut 0 4\n"):
            self.found(edited(one=text))
        many = "size 4\ncut 1 3\n" + "char - - a\n" * 1999
        self.found(edited(one=many), ("misfit", ("patches/one",)))

    def test_ids_that_stand_for_no_chapter(self):
        old = Book(items=(("one", "figure", "", None), ("fig", "chapter", (), None)))
        base = raw.octets(str(check_of(write_book(old))))
        self.found(edited(base=base), ("misfit", ("patches/one",)), ("misfit", ("patches/two",)), old=old)
        old = Book(items=(("one", "figure", "", None), ("one", "chapter", line("ab"), None), ("two", "chapter", line("cd"), None)))
        base = raw.octets(str(check_of(write_book(old))))
        self.found(edited(base=base), ("misfit", ("patches/one",)), old=old)

    def test_any_patch_that_can_be_applied_is_taken(self):
        patch = Patch(4, ((0, 4, line("cd")),))
        data = raw.archive(*edited(two=write_patch(patch)))
        self.assertEqual(apply_update(OLD, data), NEW)


class Applied(UpdateCase):
    def test_defects_of_the_new_book_are_not_looked_at(self):
        new = Book(fields=(("title", ""),), items=(("one", "chapter", node("para", ch("a", link="x#y")), None),), slots=(("zz", True),))
        self.assertGreater(len(defects(new)), 4)
        self.updated(OLD, new)

    def test_random_changes(self):
        refused = 0
        for seed in range(300):
            chance = random.Random(seed)
            old, new = random_parts(chance), random_parts(chance)
            entries = list(read_archive(make_update(old, new)))
            way = chance.randrange(5)
            at = chance.randrange(len(entries))
            if way == 0:
                chance.shuffle(entries)
            elif way == 1:
                del entries[at]
            elif way == 2:
                entries.insert(at, (chance.choice(("patches/a", "chapters/b", "items/c", "chapters/c.1", "z")) + "9", ()))
            elif way == 3:
                name, payload = entries[at]
                spot = chance.randint(0, len(payload))
                entries[at] = (name, payload[:spot] + chance.choice(((), (9,), (48,), (32,), (10,))) + payload[spot + 1:])
            else:
                old = random_parts(chance)
            data = raw.archive(*entries)
            found = judge_update(old, data)
            if found:
                refused += 1
                self.assertError(Refused, {"word": found[0][0], "path": found[0][1]}, apply_update, old, data)
            else:
                self.assertIsInstance(apply_update(old, data), Book)
        self.assertGreater(refused, 150)

    def test_a_row_of_updates(self):
        books = [random_book(random.Random(seed)) for seed in range(10)]
        updates = [make_update(old, new) for old, new in zip(books, books[1:])]
        now = books[0]
        for update in updates:
            now = apply_update(now, update)
        self.assertEqual(now, books[-1])


class Octets(UpdateCase):
    def test_they_come_first(self):
        for function in (judge_update, apply_update):
            for value in raw.NO_TUPLES:
                self.assertError(BadOctets, {"index": None}, function, OLD, value)
            data = make_update(OLD, NEW)
            for value in raw.NO_OCTETS:
                self.assertError(BadOctets, {"index": 3}, function, OLD, data[:3] + (value,) + data[4:])
                self.assertError(BadOctets, {"index": 0}, function, OLD, (value,))

    def test_all_errors_are_errors_of_books(self):
        self.assertTrue(issubclass(Refused, BookError) and issubclass(BadOctets, BookError))


if __name__ == "__main__":
    unittest.main()
