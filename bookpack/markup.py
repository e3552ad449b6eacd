"""Markup: the texts of chapters."""

from bookpack.chapters import LINE_KINDS, first_misplaced, is_link, is_text, is_token
from bookpack.checks import require_chapter
from bookpack.errors import BadText
from bookpack.words import read_styles, write_styles

_PLAIN = ((), None)
_WRITTEN = {"<": "&l;", "&": "&a;"}
_ESCAPES = {"&l;": "<", "&a;": "&"}
_TAG_SIGNS = {"/": "close", "#": "anchor", "!": "image"}
_LOOK_SIGN = "<="


def write_chapter(chapter):
    """The text of a chapter."""
    require_chapter(chapter)
    parts = []
    look = _PLAIN
    for token in chapter:
        word = token[0]
        if word == "char":
            if token[2:] != look:
                look = token[2:]
                parts.append(_look_tag(look))
            parts.append(_WRITTEN.get(token[1], token[1]))
        elif word == "anchor":
            parts.append("<#" + token[1] + ">")
        elif word == "image":
            parts.append("<!" + token[1] + ">")
        elif word == "close":
            parts.append("</" + token[1] + ">\n")
        else:
            look = _PLAIN
            parts.append("<" + token[1] + (">" if token[1] in LINE_KINDS else ">\n"))
    return "".join(parts)


def read_chapter(text):
    """The chapter that a text writes."""
    if not isinstance(text, str):
        raise BadText(0, 0)
    rows = text.split("\n")
    tokens = []
    places = []
    stop = None
    for number, row in enumerate(rows):
        found, column = _read_row(row, number + 1 == len(rows))
        tokens.extend([token for token, at in found])
        places.extend([(number + 1, at) for token, at in found])
        if column is not None:
            stop = (number + 1, column)
            break
    index = first_misplaced(tokens)
    if index is None and stop is None:
        return tuple(tokens)
    # Where nodes are open at the end, the text ends with a line end if nothing has stopped it.
    places.append((len(rows), 1) if stop is None else stop)
    row, column = places[-1 if index is None else index]
    raise BadText(row, column)


def _look_tag(look):
    styles, link = look
    return _LOOK_SIGN + write_styles(styles) + ("" if link is None else " " + link) + ">"


def _read_row(row, is_last):
    """The tokens of a row, each with its column, and the column of the first piece that cannot stand in such a row.

    The column is None if all can stand. Whether the tokens make a chapter is not looked at.
    """
    found = []
    look = _PLAIN
    at = 0
    is_whole = False
    while at < len(row) and not is_whole:
        piece = _piece_at(row, at)
        behind = at + len(piece)
        if piece.startswith(_LOOK_SIGN):
            new = _look_of(piece)
            # Chars stand in lines, so that a token has to be before them.
            if not found or new is None or new == look or _char_of(_piece_at(row, behind)) is None:
                return found, at + 1
            look = new
        else:
            token = _token_of(piece, look)
            if token is None:
                return found, at + 1
            found.append((token, at + 1))
            is_whole = _ends_row(token)
        at = behind
    # Nothing can stand behind the last line end, and only a whole row before each one.
    can_end = row == "" if is_last else is_whole
    return found, (None if can_end and at == len(row) else at + 1)


def _piece_at(row, at):
    """The piece of a row that begins at an index; empty if there is none that can stand anywhere."""
    first = row[at:at + 1]
    if first == "<":
        return row[at:row.find(">", at) + 1]
    if first == "&":
        piece = row[at:at + 3]
        return piece if piece in _ESCAPES else ""
    return first


def _char_of(piece):
    """The character that a piece writes; None if it writes none."""
    if len(piece) == 1:
        return piece if is_text(piece) else None
    return _ESCAPES.get(piece)


def _look_of(tag):
    """The styles and the link that a tag tells; None if it is not written like one."""
    word, space, link = tag[2:-1].partition(" ")
    styles = read_styles(word)
    if styles is None:
        return None
    if space == "":
        return styles, None
    return (styles, link) if is_link(link) else None


def _token_of(piece, look):
    """The token that a piece writes; None if it writes none."""
    c = _char_of(piece)
    if c is not None:
        return ("char", c) + look
    word = _TAG_SIGNS.get(piece[1:2], "open")
    token = (word, piece[1 if word == "open" else 2:-1])
    return token if is_token(token) else None


def _ends_row(token):
    """Whether nothing but a line end can follow a token in its row."""
    return token[0] == "close" or (token[0] == "open" and token[1] not in LINE_KINDS)
