"""Drafts: a book that is edited step by step, with marks that are carried along."""

from bookpack.branches import merge
from bookpack.chapters import is_id
from bookpack.checks import require_within
from bookpack.errors import BadBranch, BadNumber, BookError, Busy, Clash, NoMark
from bookpack.links import book_links, targets
from bookpack.moves import Move
from bookpack.parts import leads_out
from bookpack.patches import Patch


class Draft:
    """A book that is edited; each edit can be undone and repeated.

    A step is a tuple of edits, and an edit a tuple of the chapter's id, the patch or move, the one that
    undoes it, and the patch that does the same. Tuples and dicts are replaced and never changed, so that
    it is enough to remember them where all may have to be as it was.
    """

    def __init__(self, book):
        self._book = book
        self._marks = {}
        self._done = ()
        self._later = ()
        # The edits of the outermost together that is running, None outside of one.
        self._group = None

    @property
    def book(self):
        """The book as it is now."""
        return self._book

    @property
    def steps(self):
        """How many steps can be undone."""
        return len(self._done) + (1 if self._group else 0)

    @property
    def later(self):
        """How many steps can be repeated."""
        return len(self._later)

    @property
    def log(self):
        """The edits that stand, as (id, patch)."""
        steps = self._done if self._group is None else self._done + (self._group,)
        return tuple([(key, patch) for step in steps for key, edit, back, patch in step])

    def do(self, key, edit):
        """Edit a chapter by a patch or a move."""
        chapter = self._book.chapter(key)
        made = edit.made_of(chapter)
        if isinstance(edit, Move):
            row = (key, edit, edit.undo(), edit.patch_of(chapter))
        else:
            row = (key, edit, edit.undo_of(chapter), edit)
        self._take(key, edit, made)
        self._later = ()
        if self._group is None:
            self._done = self._done + ((row,),)
        else:
            self._group = self._group + (row,)

    def undo(self):
        """Undo the last step; whether there was one."""
        self._require_rest()
        if not self._done:
            return False
        step = self._done[-1]
        for key, edit, back, patch in step[::-1]:
            self._take(key, back, back.made_of(self._book.chapter(key)))
        self._done = self._done[:-1]
        self._later = self._later + (step,)
        return True

    def redo(self):
        """Repeat the step that was undone last; whether there was one."""
        self._require_rest()
        if not self._later:
            return False
        step = self._later[-1]
        for key, edit, back, patch in step:
            self._take(key, edit, edit.made_of(self._book.chapter(key)))
        self._later = self._later[:-1]
        self._done = self._done + (step,)
        return True

    def together(self, function):
        """Call a function with the draft, so that all its steps become one; what it returns."""
        book = self._book
        marks = self._marks
        done = self._done
        later = self._later
        group = self._group
        if group is None:
            self._group = ()
        failed = True
        try:
            answer = function(self)
            failed = None
        finally:
            if failed is not None:
                self._book, self._marks, self._done, self._later, self._group = book, marks, done, later, group
        if group is None:
            if self._group:
                self._done = self._done + (self._group,)
            self._group = None
        return answer

    def keep(self, name, key, gap, after=False):
        """Keep a place as a mark."""
        if not is_id(name):
            raise BadNumber("name")
        require_within("gap", gap, 0, len(self._book.chapter(key)))
        marks = dict(self._marks)
        marks[name] = (key, gap, after is True)
        self._marks = marks

    def where(self, name):
        """The place (id, gap) of a mark."""
        key, gap, after = self._marks[self._known(name)]
        return key, gap

    def forget(self, name):
        """Forget a mark."""
        lost = self._known(name)
        self._marks = {word: mark for word, mark in self._marks.items() if word != lost}

    def incoming(self, key, name):
        """The links with this id and name, as (id, start, end)."""
        wanted = key + "#" + name
        return [(at, start, end) for at, start, end, link in book_links(self._book) if link == wanted]

    def broken(self):
        """The links that lead neither out nor to an anchor, as (id, start, end)."""
        reached = targets(self._book)
        return [
            (at, start, end)
            for at, start, end, link in book_links(self._book)
            if not leads_out(link) and link not in reached
        ]

    def _require_rest(self):
        if self._group is not None:
            raise Busy()

    def _known(self, name):
        if not isinstance(name, str) or name not in self._marks:
            raise NoMark(name)
        return name

    def _take(self, key, edit, made):
        """Take what an edit made of a chapter, and carry the marks in it."""
        self._book = self._book.with_known(key, made)
        marks = {}
        for name, (at, gap, after) in self._marks.items():
            marks[name] = (at, edit.carry(gap, after) if at == key else gap, after)
        self._marks = marks


def merge_steps(book, ours, theirs):
    """Merge two rows of steps (id, patch) of a book, chapter by chapter."""
    _require_steps(book, ours, 0)
    _require_steps(book, theirs, 1)
    made = book
    seen = {}
    for item in book.plain[1]:
        key = item[0]
        if key not in seen:
            made = _merged(made, key, ours, theirs)
        seen[key] = True
    return made


def _require_steps(book, steps, side):
    if not isinstance(steps, tuple):
        raise BadBranch(side, None)
    now = book
    for number, step in enumerate(steps):
        if not isinstance(step, tuple) or len(step) != 2 or not isinstance(step[1], Patch):
            raise BadBranch(side, number)
        key, patch = step
        try:
            now = now.with_known(key, patch.made_of(now.chapter(key)))
        except BookError:
            raise BadBranch(side, number) from None


def _merged(book, key, ours, theirs):
    """The book with the steps of one chapter merged."""
    one = [number for number, step in enumerate(ours) if step[0] == key]
    other = [number for number, step in enumerate(theirs) if step[0] == key]
    if not one and not other:
        return book
    rows = tuple([ours[number][1] for number in one])
    others = tuple([theirs[number][1] for number in other])
    try:
        result = merge(book.chapter(key), rows, others).result
    except Clash as e:
        raise Clash(one[e.first], other[e.second], e.place) from None
    return book.with_known(key, result)
