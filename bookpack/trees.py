"""The tree that the tokens of a chapter stand for: its nodes and their children, by gaps."""


def nodes_at(chapter, gap):
    """The indexes of the open tokens of the nodes that are open at a gap, from the outside in."""
    nodes = []
    for index in range(gap):
        word = chapter[index][0]
        if word == "open":
            nodes.append(index)
        elif word == "close":
            nodes.pop()
    return nodes


def child_end(chapter, gap):
    """The gap behind the child that begins at a gap; None if none begins there."""
    depth = 0
    for index in range(gap, len(chapter)):
        word = chapter[index][0]
        if word == "open":
            depth += 1
        elif word == "close":
            depth -= 1
        if depth == 0:
            return index + 1
        if depth < 0:
            return None
    return None


def children_end(chapter, gap, count):
    """The gap behind so many children behind a gap; None if there are fewer."""
    end = gap
    for _ in range(count):
        end = child_end(chapter, end)
        if end is None:
            return None
    return end


def step_over(counts, token):
    """Take the steps of the gap before a token, a list, to those of the gap behind it."""
    if token[0] == "open":
        counts.append(0)
        return
    # A node counts as a child only once it is complete.
    if token[0] == "close":
        counts.pop()
    counts[-1] += 1


def begins_node(chapter, gap):
    """Whether a node begins at a gap."""
    return gap < len(chapter) and chapter[gap][0] == "open"
