"""All errors of the package: each is directly under BookError, and has its fields as attributes."""


class BookError(ValueError):
    """What the package raises if it refuses a call."""


class BadChapter(BookError):
    """A value that should be a chapter is none from this index on; -1 for no tuple."""

    def __init__(self, index):
        self.index = index


class BadToken(BookError):
    """The element with this index is no token; None for no tuple."""

    def __init__(self, index):
        self.index = index


class BadKind(BookError):
    """This is no kind that can stand here."""

    def __init__(self, kind):
        self.kind = kind


class BadStyle(BookError):
    """This keyword is no style, or its value is neither True nor False."""

    def __init__(self, word):
        self.word = word


class BadLink(BookError):
    """This is no link."""

    def __init__(self, link):
        self.link = link


class BadNumber(BookError):
    """The parameter of this name is no integer within its bounds."""

    def __init__(self, name):
        self.name = name


class BadSpot(BookError):
    """The step with this number is none; None if there are no steps."""

    def __init__(self, number):
        self.number = number


class NoSpot(BookError):
    """The step with this number leads nowhere in the chapter."""

    def __init__(self, depth):
        self.depth = depth


class BadText(BookError):
    """A text cannot be read from this row and column on."""

    def __init__(self, row, column):
        self.row = row
        self.column = column


class BadPatch(BookError):
    """A part of a patch is malformed at the element with this number."""

    def __init__(self, part, number):
        self.part = part
        self.number = number


class Misfit(BookError):
    """A patch or move does not fit: None for the size, else what does not fit."""

    def __init__(self, index):
        self.index = index


class Conflict(BookError):
    """Two patches of one chapter conflict at this index or gap."""

    def __init__(self, place):
        self.place = place


class NoNode(BookError):
    """The nodes that are asked for are not at this gap."""

    def __init__(self, gap):
        self.gap = gap


class TooLong(BookError):
    """The chapter with this number is too long to be compared."""

    def __init__(self, number):
        self.number = number


class BadBranch(BookError):
    """A branch has no patch that can be applied at this number."""

    def __init__(self, side, number):
        self.side = side
        self.number = number


class Clash(BookError):
    """Two branches cannot be merged: at these patches and this place."""

    def __init__(self, first, second, place):
        self.first = first
        self.second = second
        self.place = place


class BadBook(BookError):
    """A part of a book is malformed at the element with this number."""

    def __init__(self, part, number):
        self.part = part
        self.number = number


class NoItem(BookError):
    """The book has no item with this id."""

    def __init__(self, key):
        self.key = key


class NoChapter(BookError):
    """The item with this id is no chapter."""

    def __init__(self, key):
        self.key = key


class NotInSlots(BookError):
    """No slot has this id."""

    def __init__(self, key):
        self.key = key


class NotNeighbors(BookError):
    """The slots of two chapters are not directly one after the other."""

    def __init__(self):
        pass


class BadOrder(BookError):
    """The row of ids is malformed at the element with this number."""

    def __init__(self, number):
        self.number = number


class BadNames(BookError):
    """The row of new ids is malformed at the element with this number."""

    def __init__(self, number):
        self.number = number


class NoMain(BookError):
    """No main slot would be left."""

    def __init__(self):
        pass


class TooMany(BookError):
    """A part of the new book would have too many elements."""

    def __init__(self, part):
        self.part = part


class Unsound(BookError):
    """The book has this defect, so it cannot be transformed."""

    def __init__(self, word, path):
        self.word = word
        self.path = path


class Busy(BookError):
    """Steps cannot be undone or repeated while they are being joined."""

    def __init__(self):
        pass


class NoMark(BookError):
    """The draft has no mark of this name."""

    def __init__(self, name):
        self.name = name


class BadOctets(BookError):
    """The element with this index is no octet; None for no tuple."""

    def __init__(self, index):
        self.index = index


class BadEntry(BookError):
    """The entry with this number cannot be written; None for no tuple or too many."""

    def __init__(self, number):
        self.number = number


class BadArchive(BookError):
    """An archive has this fault at this offset."""

    def __init__(self, word, offset):
        self.word = word
        self.offset = offset


class Refused(BookError):
    """Data is refused for this reason, at this path."""

    def __init__(self, word, path):
        self.word = word
        self.path = path


class Unrecoverable(BookError):
    """No book can be recovered, for want of this."""

    def __init__(self, word):
        self.word = word
