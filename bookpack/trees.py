"""The tree that the tokens of a chapter stand for: its nodes and their children, by gaps."""

from bookpack.chapters import LINE_KINDS


def nodes_at(chapter, gap):
    """The indexes of the open tokens of the nodes that are open at a gap, from the outside in."""
    nodes = []
    for index in range(gap):
        word = chapter[index][0]
        if word == "open":
            nodes.append(index)
        elif word == "close":
            nodes.pop()
    return nodes


def child_end(chapter, gap):
    """The gap behind the child that begins at a gap; None if none begins there."""
    return children_end(chapter, gap, 1)


def children_end(chapter, gap, count):
    """The gap behind so many children behind a gap; None if there are fewer."""
    if count == 0:
        return gap
    left = count
    depth = 0
    for index in range(gap, len(chapter)):
        word = chapter[index][0]
        if word == "open":
            depth += 1
            continue
        if word == "close":
            depth -= 1
        if depth < 0:
            return None
        if depth == 0:
            left -= 1
            if left == 0:
                return index + 1
    return None


def step_over(counts, token):
    """Take the steps of the gap before a token, a list, to those of the gap behind it."""
    if token[0] == "open":
        counts.append(0)
        return
    # A node counts as a child only once it is complete.
    if token[0] == "close":
        counts.pop()
    counts[-1] += 1


def begins_node(chapter, gap):
    """Whether a node begins at a gap."""
    return gap < len(chapter) and chapter[gap][0] == "open"


def is_in_line(chapter, gap):
    """Whether the innermost node that is open at a gap is a line."""
    if gap == 0:
        return False
    token = chapter[gap - 1]
    if token[0] == "open":
        return token[1] in LINE_KINDS
    return token[0] != "close"


def keeps_nodes(chapter, pieces, changes):
    """Whether pieces and changes only touch glyphs in lines, so that all nodes of a chapter stay as they are."""
    for start, end, tokens in pieces:
        if not is_in_line(chapter, start):
            return False
        for token in chapter[start:end] + tokens:
            if token[0] == "open" or token[0] == "close":
                return False
    return all([aspect != "kind" for index, aspect, value in changes])
