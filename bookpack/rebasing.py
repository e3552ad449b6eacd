"""Two patches of the same size: where they conflict, and what one does after the other."""


def conflict(patch, other):
    """The least index or gap at which two patches conflict; None if they do not."""
    ours = _owners(patch)
    theirs = _owners(other)
    places = [index for index in range(patch.size) if ours[index] >= 0 and theirs[index] >= 0]
    places.extend(_parted(patch, theirs))
    places.extend(_parted(other, ours))
    places.extend(_lost(patch, theirs))
    places.extend(_lost(other, ours))
    places.extend(_unlike(patch, other))
    return min([int(place) for place in places], default=None)


def rebased_pieces(patch, other, first):
    """The pieces of a patch over another one, where they do not conflict."""
    made = []
    for start, end, tokens in patch.pieces:
        if start < end:
            low = other.carry(start, after=True)
            high = other.carry(end)
        else:
            low = other.carry(start, after=_goes_behind(other, start, first))
            high = low
        if made and made[-1][1] == low:
            before, _, put = made.pop()
            made.append((before, high, put + tokens))
        else:
            made.append((low, high, tokens))
    return tuple(made)


def rebased_changes(patch, other):
    """The changes of a patch over another one, without those that the other one makes as well."""
    made = {(index, aspect): True for index, aspect, value in other.changes}
    changes = [
        (other.carry(index, after=True), aspect, value)
        for index, aspect, value in patch.changes
        if (index, aspect) not in made
    ]
    return tuple(changes)


def _goes_behind(other, gap, first):
    """Whether what is put at a gap goes behind what the other patch puts where it touches the gap."""
    for start, end, _ in other.pieces:
        if start == end == gap:
            return first is not True
        if end == gap:
            return True
    return False


def _owners(patch):
    """For each token the number of the piece that removes it, or -1."""
    owners = [-1] * patch.size
    for number, (start, end, _) in enumerate(patch.pieces):
        for index in range(start, end):
            owners[index] = number
    return owners


def _parted(patch, owners):
    """The gaps where a patch only puts tokens, between two tokens that have the same owner."""
    return [
        start
        for start, end, _ in patch.pieces
        if start == end and 0 < start < len(owners) and owners[start] >= 0 and owners[start - 1] == owners[start]
    ]


def _lost(patch, owners):
    """The indexes at which a patch changes a token that has an owner."""
    return [index for index, aspect, value in patch.changes if owners[index] >= 0]


def _unlike(patch, other):
    """The indexes at which two patches change the same aspect to different values."""
    values = {(index, aspect): value for index, aspect, value in other.changes}
    return [
        index
        for index, aspect, value in patch.changes
        if (index, aspect) in values and values[(index, aspect)] != value
    ]
