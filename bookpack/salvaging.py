"""Salvaging: the sound entries of data that have as many octets as possible together."""

from bookpack.checks import is_integer
from bookpack.entries import marked_offsets, sound_entries
from bookpack.octets import require_data


def salvage(data):
    """The sound entries that are chosen, as (offset, name, payload)."""
    require_data(data)
    return chosen_entries(data)


def chosen_entries(data):
    """The same as salvage, for what is known to be data."""
    entries = sound_entries(data, marked_offsets(data))
    table = _most_octets(len(data), entries)
    chosen = []
    free = 0
    for offset, (name, begin, end) in entries.items():
        # An entry of a best choice is taken as early as possible.
        if offset >= free and table[offset] == end - offset + table[end]:
            chosen.append((offset, name, data[begin:end]))
            free = end
    return tuple(chosen)


def remains(data):
    """The most octets that sound entries can have together from each offset on."""
    require_data(data)
    return tuple(_most_octets(len(data), sound_entries(data, marked_offsets(data))))


def shows_most(data, offsets, thing):
    """Whether an object is a table of remains that shows that no choice has more octets than that of these offsets."""
    require_data(data)
    entries = sound_entries(data, marked_offsets(data))
    if not _is_table(thing, len(data), entries) or not isinstance(offsets, tuple):
        return False
    many = 0
    free = 0
    for offset in offsets:
        if not is_integer(offset) or offset < free or offset not in entries:
            return False
        free = entries[offset][2]
        many += free - offset
    return many == thing[0]


def _most_octets(size, entries):
    """A list of the most octets that some entries can have together from each offset on, for data of this size."""
    table = [0] * (size + 1)
    for offset in reversed(range(size)):
        most = table[offset + 1]
        if offset in entries:
            end = entries[offset][2]
            if end - offset + table[end] > most:
                most = end - offset + table[end]
        table[offset] = most
    return table


def _is_table(thing, size, entries):
    """Whether an object is a table of remains for data of this size, with these sound entries."""
    if not isinstance(thing, tuple) or len(thing) != size + 1:
        return False
    if not all([is_integer(number) for number in thing]) or thing[-1] != 0:
        return False
    if any([thing[offset] < thing[offset + 1] for offset in range(size)]):
        return False
    for offset, (name, begin, end) in entries.items():
        if thing[offset] < end - offset + thing[end]:
            return False
    return True
