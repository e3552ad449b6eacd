"""Two patches of the same size: where they conflict, and what one does after the other."""


def conflict(patch, other):
    """The least index or gap at which two patches conflict; None if they do not."""
    ours = _owners(patch)
    theirs = _owners(other)
    places = [index for index in ours if index in theirs]
    places.extend(_parted(patch, theirs))
    places.extend(_parted(other, ours))
    places.extend(_lost(patch, theirs))
    places.extend(_lost(other, ours))
    places.extend(_unlike(patch, other))
    return min([int(place) for place in places], default=None)


def rebased_pieces(patch, other, first):
    """The pieces of a patch over another one, where they do not conflict."""
    starts = {end: start for start, end, _ in other.pieces}
    made = []
    for start, end, tokens in patch.pieces:
        if start < end:
            low = other.carry(start, after=True)
            high = other.carry(end)
        else:
            # Behind what the other patch puts for the tokens before the gap, or without removing any, as first tells.
            is_behind = start in starts and (starts[start] < start or first is not True)
            low = other.carry(start, after=is_behind)
            high = low
        if made and made[-1][1] == low:
            before, _, put = made.pop()
            made.append((before, high, put + tokens))
        else:
            made.append((low, high, tokens))
    return tuple(made)


def rebased_changes(patch, other):
    """The changes of a patch over another one, without those that the other one makes as well."""
    made = {(index, aspect): True for index, aspect, value in other.changes}
    changes = [
        (other.carry(index, after=True), aspect, value)
        for index, aspect, value in patch.changes
        if (index, aspect) not in made
    ]
    return tuple(changes)


def _owners(patch):
    """For each token that a patch removes the number of the piece."""
    return {index: number for number, (start, end, _) in enumerate(patch.pieces) for index in range(start, end)}


def _parted(patch, owners):
    """The gaps where a patch only puts tokens, between two tokens that have the same owner."""
    return [
        start
        for start, end, _ in patch.pieces
        if start == end and start in owners and owners.get(start - 1) == owners[start]
    ]


def _lost(patch, owners):
    """The indexes at which a patch changes a token that has an owner."""
    return [index for index, aspect, value in patch.changes if index in owners]


def _unlike(patch, other):
    """The indexes at which two patches change the same aspect to different values."""
    values = {(index, aspect): value for index, aspect, value in other.changes}
    return [
        index
        for index, aspect, value in patch.changes
        if (index, aspect) in values and values[(index, aspect)] != value
    ]
