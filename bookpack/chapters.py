"""Tokens and chapters: what they are, and where a value stops being the beginning of a chapter."""

BOX_KINDS = ("section", "quote", "list", "item")
LINE_KINDS = ("head1", "head2", "head3", "para")
HEAD_LEVELS = {"head1": 1, "head2": 2, "head3": 3}
STYLES = ("code", "slant", "strong")
MOST_OPEN = 12
MOST_TOKENS = 2000

_LETTERS = "abcdefghijklmnopqrstuvwxyz"
_LETTERS_AND_DIGITS = "abcdefghijklmnopqrstuvwxyz0123456789"
_PERCENT = 37
_STYLE_ROWS = (
    (),
    ("code",),
    ("slant",),
    ("strong",),
    ("code", "slant"),
    ("code", "strong"),
    ("slant", "strong"),
    ("code", "slant", "strong"),
)


def is_id(value):
    """Whether an object is an id; names have the same form."""
    if not isinstance(value, str) or not 1 <= len(value) <= 16:
        return False
    return value[0] in _LETTERS and all([c in _LETTERS_AND_DIGITS for c in value])


def is_link(value):
    """Whether an object is a link, into a book or out of it."""
    if not isinstance(value, str):
        return False
    if value.startswith("out:"):
        rest = value[4:]
        return 1 <= len(rest) <= 20 and all([_is_plain(c) and c not in " <>&" for c in rest])
    key, _, name = value.partition("#")
    return is_id(key) and is_id(name)


def is_text(value):
    """Whether a string is text."""
    return all([_is_plain(c) for c in value])


def is_token(value):
    """Whether an object is a token."""
    # Words are compared only once they are strings: other objects may answer to == as they like.
    if not isinstance(value, tuple) or not value or not isinstance(value[0], str):
        return False
    word = value[0]
    if word == "char":
        return len(value) == 4 and _is_char(value[1], value[2], value[3])
    if len(value) != 2:
        return False
    if word == "open" or word == "close":
        return sort_of(value[1]) is not None
    return (word == "anchor" or word == "image") and is_id(value[1])


def sort_of(kind):
    """The sort of a kind, "box" or "line"; None for an object that is no kind."""
    if not isinstance(kind, str):
        return None
    if kind in BOX_KINDS:
        return "box"
    return "line" if kind in LINE_KINDS else None


def first_bad(value):
    """Where a value stops being the beginning of a chapter: None for a chapter, -1 for no tuple."""
    if not isinstance(value, tuple):
        return -1
    kinds = []
    for index, token in enumerate(value):
        if not is_token(token) or not _can_stand(token, kinds):
            return index
        if token[0] == "open":
            kinds.append(token[1])
        elif token[0] == "close":
            kinds.pop()
        # Every open node still needs a close token.
        if index + 1 + len(kinds) > MOST_TOKENS:
            return index
    return len(value) if kinds else None


def _is_plain(c):
    return " " <= c <= "~" and ord(c) != _PERCENT


def _is_char(c, styles, link):
    if not isinstance(c, str) or len(c) != 1 or not _is_plain(c):
        return False
    if not _are_styles(styles):
        return False
    return link is None or is_link(link)


def _are_styles(value):
    if not isinstance(value, tuple):
        return False
    return all([isinstance(word, str) for word in value]) and value in _STYLE_ROWS


def _can_stand(token, kinds):
    """Whether a token can stand where nodes of these kinds are open, from the outside in."""
    inner = kinds[-1] if kinds else None
    if token[0] == "close":
        return token[1] == inner
    if token[0] != "open":
        return inner in LINE_KINDS
    if len(kinds) == MOST_OPEN or inner in LINE_KINDS:
        return False
    return (token[1] == "item") == (inner == "list")
