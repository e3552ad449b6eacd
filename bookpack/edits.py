"""Edits: each makes a patch for a chapter, and refuses one whose result is no chapter."""

from bookpack.aspects import value_of
from bookpack.chapters import STYLES, count_tokens, is_link, sort_of
from bookpack.checks import require_chapter, require_from, require_within
from bookpack.errors import BadKind, BadLink, BadStyle, BadToken, NoNode
from bookpack.patches import known_patch
from bookpack.trees import begins_node, child_end, children_end, nodes_at


def insert(chapter, gap, tokens):
    """Put tokens at a gap."""
    _require_gap(chapter, gap)
    if not isinstance(tokens, tuple):
        raise BadToken(None)
    count = count_tokens(tokens)
    if count < len(tokens):
        raise BadToken(count)
    return _checked(chapter, ((gap, gap, tokens),) if tokens else (), ())


def delete(chapter, gap, count):
    """Remove so many children behind a gap."""
    _require_gap(chapter, gap)
    require_from("count", count, 0)
    end = _children_end(chapter, gap, count)
    return _checked(chapter, ((gap, end, ()),) if gap < end else (), ())


def split(chapter, gap, *, kind=None, levels=1):
    """Close the innermost nodes at a gap and begin new ones behind it, the innermost perhaps of another kind."""
    _require_gap(chapter, gap)
    require_from("levels", levels, 1)
    nodes = nodes_at(chapter, gap)
    if levels > len(nodes):
        raise NoNode(gap)
    parted = nodes[-levels:]
    inner = parted[-1]
    old = chapter[inner][1]
    new = old if kind is None else kind
    if sort_of(new) != sort_of(old):
        raise BadKind(kind)
    closing = [("close", chapter[index][1]) for index in parted[::-1]]
    opening = [("open", chapter[index][1]) for index in parted[:-1]]
    tokens = (*closing, *opening, ("open", new))
    changes = _kind_changes(chapter, (child_end(chapter, inner) - 1,), new)
    return _checked(chapter, ((gap, gap, tokens),), changes)


def join(chapter, gap):
    """Make one node of the two lines or the two boxes that meet at a gap."""
    _require_gap(chapter, gap)
    if gap == 0 or chapter[gap - 1][0] != "close" or not begins_node(chapter, gap):
        raise NoNode(gap)
    kind = chapter[gap - 1][1]
    if sort_of(chapter[gap][1]) != sort_of(kind):
        raise NoNode(gap)
    changes = _kind_changes(chapter, (child_end(chapter, gap) - 1,), kind)
    return _checked(chapter, ((gap - 1, gap + 1, ()),), changes)


def wrap(chapter, gap, count, kind):
    """Put a new box around so many children behind a gap."""
    _require_gap(chapter, gap)
    require_from("count", count, 0)
    if sort_of(kind) != "box":
        raise BadKind(kind)
    end = _children_end(chapter, gap, count)
    before = ("open", kind)
    behind = ("close", kind)
    if gap == end:
        return _checked(chapter, ((gap, gap, (before, behind)),), ())
    return _checked(chapter, ((gap, gap, (before,)), (end, end, (behind,))), ())


def unwrap(chapter, gap):
    """Remove the open and the close token of the box behind a gap."""
    _require_gap(chapter, gap)
    if not begins_node(chapter, gap) or sort_of(chapter[gap][1]) != "box":
        raise NoNode(gap)
    end = child_end(chapter, gap)
    if end == gap + 2:
        return _checked(chapter, ((gap, end, ()),), ())
    return _checked(chapter, ((gap, gap + 1, ()), (end - 1, end, ())), ())


def rename(chapter, gap, kind):
    """Give the node behind a gap another kind."""
    _require_gap(chapter, gap)
    if not begins_node(chapter, gap):
        raise NoNode(gap)
    if sort_of(kind) != sort_of(chapter[gap][1]):
        raise BadKind(kind)
    changes = _kind_changes(chapter, (gap, child_end(chapter, gap) - 1), kind)
    return _checked(chapter, (), changes)


def restyle(chapter, start, end, *, link="same", **styles):
    """Give all chars between two gaps some styles, and a link unless it is "same"."""
    _require_styling(chapter, start, end, link, styles)
    values = dict(styles)
    if not _is_same(link):
        values["link"] = link
    aspects = sorted([str(aspect) for aspect in values])
    changes = [
        (index, aspect, values[aspect])
        for index in range(start, end)
        if chapter[index][0] == "char"
        for aspect in aspects
        if value_of(chapter[index], aspect) != values[aspect]
    ]
    # A chapter stays one, whatever the styles and links of its chars are.
    return known_patch(len(chapter), (), tuple(changes))


def _require_gap(chapter, gap):
    require_chapter(chapter)
    require_within("gap", gap, 0, len(chapter))


def _require_styling(chapter, start, end, link, styles):
    require_chapter(chapter)
    require_within("start", start, 0, len(chapter))
    require_within("end", end, start, len(chapter))
    for word in sorted([str(word) for word in styles]):
        if word not in STYLES or not isinstance(styles[word], bool):
            raise BadStyle(word)
    if link is not None and not _is_same(link) and not is_link(link):
        raise BadLink(link)


def _is_same(link):
    # Other objects than strings may answer to == as they like.
    return isinstance(link, str) and link == "same"


def _children_end(chapter, gap, count):
    end = children_end(chapter, gap, count)
    if end is None:
        raise NoNode(gap)
    return end


def _kind_changes(chapter, indexes, kind):
    """The changes to a kind of the tokens that have another one."""
    return tuple([(index, "kind", kind) for index in indexes if chapter[index][1] != kind])


def _checked(chapter, pieces, changes):
    """The patch of these pieces and changes, if it makes a chapter."""
    patch = known_patch(len(chapter), pieces, changes)
    patch.made_of(chapter)
    return patch
