"""The rows of the texts of patches."""

from bookpack.chapters import MOST_TOKENS, STYLES, is_token
from bookpack.checks import is_within
from bookpack.words import read_number, read_styles, write_styles

_NOTHING = "-"
_ANSWERS = {"yes": True, "no": False}


def token_row(token):
    """The row of a token that a piece puts."""
    if token[0] != "char":
        return " ".join(list(token))
    word, c, styles, link = token
    return " ".join([word, write_styles(styles) or _NOTHING, _NOTHING if link is None else link, c])


def change_row(change):
    """The row of a change."""
    index, aspect, value = change
    if aspect in STYLES:
        word = "yes" if value else "no"
    else:
        word = _NOTHING if value is None else value
    return " ".join(["set", str(index), aspect, word])


def read_size(row):
    """The size that a row tells; None if it tells none."""
    words = row.split(" ")
    if len(words) != 2 or words[0] != "size":
        return None
    size = read_number(words[1])
    return size if is_within(size, 0, MOST_TOKENS) else None


def read_cut(row, least, size):
    """The start, from the least one on, and the end of a piece that a row tells; None if it tells none."""
    words = row.split(" ")
    if len(words) != 3 or words[0] != "cut":
        return None
    start = read_number(words[1])
    end = read_number(words[2])
    return (start, end) if is_within(start, least, size) and is_within(end, start, size) else None


def read_tokens(rows, at):
    """The tokens that the rows from an index on tell, as long as each tells one."""
    tokens = []
    for row in rows[at:]:
        token = _read_token(row)
        if token is None:
            break
        tokens.append(token)
    return tuple(tokens)


def read_changes(rows, at):
    """What the rows from an index on tell of changes, as long as each is written like one."""
    changes = []
    for row in rows[at:]:
        words = row.split(" ")
        if len(words) != 4 or words[0] != "set":
            break
        changes.append((read_number(words[1]), words[2], _read_value(words[2], words[3])))
    return tuple(changes)


def _read_token(row):
    words = row.split(" ", 3)
    token = tuple(words)
    if words[0] == "char":
        # The character may be a space, so that it is all that stands behind the third one.
        if len(words) < 4:
            return None
        styles = () if words[1] == _NOTHING else read_styles(words[1]) or None
        token = ("char", words[3], styles, None if words[2] == _NOTHING else words[2])
    return token if is_token(token) else None


def _read_value(aspect, word):
    """The value that a word writes for an aspect; what the aspect does not take if it writes none."""
    if aspect in STYLES:
        return _ANSWERS.get(word)
    return None if aspect == "link" and word == _NOTHING else word
