"""Tokens and chapters: what they are, and where a value stops being the beginning of a chapter."""

BOX_KINDS = ("section", "quote", "list", "item")
LINE_KINDS = ("head1", "head2", "head3", "para")
HEAD_LEVELS = {"head1": 1, "head2": 2, "head3": 3}
STYLES = ("code", "slant", "strong")
MOST_OPEN = 12
MOST_TOKENS = 2000

_LETTERS = "abcdefghijklmnopqrstuvwxyz"
_LETTERS_AND_DIGITS = "abcdefghijklmnopqrstuvwxyz0123456789"
_PERCENT = 37
_STYLE_ROWS = {
    (): True,
    ("code",): True,
    ("slant",): True,
    ("strong",): True,
    ("code", "slant"): True,
    ("code", "strong"): True,
    ("slant", "strong"): True,
    ("code", "slant", "strong"): True,
}


def is_id(value):
    """Whether an object is an id; names have the same form."""
    if not isinstance(value, str) or not 1 <= len(value) <= 16:
        return False
    return value[0] in _LETTERS and all([c in _LETTERS_AND_DIGITS for c in value])


def is_link(value):
    """Whether an object is a link, into a book or out of it."""
    if not isinstance(value, str):
        return False
    if value.startswith("out:"):
        rest = value[4:]
        return 1 <= len(rest) <= 20 and all([_is_plain(c) and c not in " <>&" for c in rest])
    key, _, name = value.partition("#")
    return is_id(key) and is_id(name)


def is_text(value):
    """Whether a string is text."""
    return all([_is_plain(c) for c in value])


def is_token(value):
    """Whether an object is a token."""
    # Words are compared only once they are strings: other objects may answer to == as they like.
    if not isinstance(value, tuple) or not value or not isinstance(value[0], str):
        return False
    word = value[0]
    if word == "char":
        return len(value) == 4 and _is_char(value[1], value[2], value[3])
    if len(value) != 2:
        return False
    if word == "open" or word == "close":
        return sort_of(value[1]) is not None
    return (word == "anchor" or word == "image") and is_id(value[1])


def sort_of(kind):
    """The sort of a kind, "box" or "line"; None for an object that is no kind."""
    if not isinstance(kind, str):
        return None
    if kind in BOX_KINDS:
        return "box"
    return "line" if kind in LINE_KINDS else None


def first_bad(value):
    """Where a value stops being the beginning of a chapter: None for a chapter, -1 for no tuple."""
    if not isinstance(value, tuple):
        return -1
    count = count_tokens(value)
    place = first_misplaced(value[:count])
    return count if place is None and count < len(value) else place


def first_misplaced(tokens):
    """Where a row of what are tokens stops being the beginning of a chapter; None for a chapter."""
    # The kinds of the open nodes, from the outside in, behind None for the top.
    kinds = [None]
    # Glyphs can stand at the indexes below this one: at none outside of lines.
    end = 0
    for index, token in enumerate(tokens):
        word = token[0]
        if word == "char":
            if index >= end:
                return index
        elif word == "open":
            kind = token[1]
            # Every open node still needs a close token.
            if end > 0 or len(kinds) > MOST_OPEN or index + 1 + len(kinds) > MOST_TOKENS:
                return index
            if (kind == "item") != (kinds[-1] == "list"):
                return index
            kinds.append(kind)
            end = MOST_TOKENS - len(kinds) + 1 if kind in LINE_KINDS else 0
        elif word == "close":
            if token[1] != kinds[-1]:
                return index
            kinds.pop()
            end = 0
        elif index >= end:
            return index
    return len(tokens) if len(kinds) > 1 else None


def count_tokens(value):
    """How many elements of a tuple, from the first one on, are tokens."""
    # Chapters are long and hold few different characters, links and pairs, so that each of these is looked at once.
    characters = {}
    links = {}
    pairs = {}
    for index, token in enumerate(value):
        if isinstance(token, tuple) and len(token) == 4:
            word, c, styles, link = token
            if (
                isinstance(c, str)
                and c in characters
                and isinstance(styles, tuple)
                and (not styles or are_styles(styles))
                and (link is None or (isinstance(link, str) and link in links))
                and isinstance(word, str)
                and word == "char"
            ):
                continue
        elif isinstance(token, tuple) and len(token) == 2:
            word, name = token
            if isinstance(word, str) and isinstance(name, str) and (word, name) in pairs:
                continue
        if not is_token(token):
            return index
        if token[0] == "char":
            characters[token[1]] = True
            links[token[3]] = True
        else:
            pairs[(token[0], token[1])] = True
    return len(value)


def are_styles(words):
    """Whether the elements of a tuple are styles in their order."""
    for word in words:
        if not isinstance(word, str):
            return False
    return words in _STYLE_ROWS


def _is_plain(c):
    return " " <= c <= "~" and ord(c) != _PERCENT


def _is_char(c, styles, link):
    if not isinstance(c, str) or len(c) != 1 or not _is_plain(c):
        return False
    if not isinstance(styles, tuple) or not are_styles(styles):
        return False
    return link is None or is_link(link)
