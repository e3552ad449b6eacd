"""Archives: entries one after the other, and a directory of them; their faults."""

from bookpack.entries import MOST_PAYLOAD, entry_octets, is_entry_name, name_at, name_octets, sound_entries
from bookpack.errors import BadArchive, BadEntry
from bookpack.octets import FIRST_CHECK, is_data, number_octets, number_of, require_data, running_check

MOST_ENTRIES = 100

_DIRECTORY_MARK = (66, 80, 68)
_END_MARK = (66, 80, 90)
_END_SIZE = 13
# What stands behind the name in a row of the directory.
_NUMBERS_SIZE = 10


def write_archive(entries):
    """The archive of some entries, pairs of a name and a payload."""
    if not isinstance(entries, tuple) or len(entries) > MOST_ENTRIES:
        raise BadEntry(None)
    data = []
    directory = list(_DIRECTORY_MARK + number_octets(len(entries), 2))
    seen = {}
    for number, entry in enumerate(entries):
        if not _is_entry(entry) or entry[0] in seen:
            raise BadEntry(number)
        name, payload = entry
        seen[name] = True
        octets = entry_octets(name, payload)
        offset = number_octets(len(data), 3)
        # The size and the check stand directly before the payload.
        head = len(octets) - len(payload)
        directory.extend(name_octets(name) + offset + octets[head - 7:head])
        data.extend(octets)
    end = number_octets(len(data), 3) + number_octets(len(directory), 3)
    check = number_octets(running_check(FIRST_CHECK, directory), 4)
    data.extend(directory)
    data.extend(_END_MARK + end + check)
    return tuple(data)


def faults(data):
    """The faults of data, as (word, offset)."""
    require_data(data)
    return looked_through(data)[0]


def read_archive(data):
    """The entries of an archive, pairs of a name and a payload."""
    require_data(data)
    found, entries = looked_through(data)
    if found:
        word, offset = found[0]
        raise BadArchive(word, offset)
    return entries


def looked_through(data):
    """The faults of what is known to be data, and the entries of which its directory has good rows."""
    place = _directory_place(data)
    if place is None:
        return [("no end", 0)], ()
    start, end, check = place
    rows = _rows_of(data[start:end])
    if rows is None or running_check(FIRST_CHECK, data[start:end]) != check:
        return [("bad directory", start)], ()
    return _gone_through(data, rows, start)


def _is_entry(value):
    """Whether an object is a pair of a name and a payload."""
    if not isinstance(value, tuple) or len(value) != 2:
        return False
    name, payload = value
    return is_entry_name(name) and is_data(payload) and len(payload) <= MOST_PAYLOAD


def _directory_place(data):
    """Where the directory begins and ends, and its check; None if the data has no end that tells it."""
    last = len(data) - _END_SIZE
    if last < 0 or data[last:last + 3] != _END_MARK:
        return None
    start = number_of(data[last + 3:last + 6])
    if start + number_of(data[last + 6:last + 9]) != last:
        return None
    return start, last, number_of(data[last + 9:])


def _rows_of(directory):
    """The rows (name, offset, size, check) of a directory; None if it is not formed like one."""
    count = number_of(directory[3:5])
    if directory[:3] != _DIRECTORY_MARK or count > MOST_ENTRIES:
        return None
    rows = []
    at = 5
    for _ in range(count):
        name = name_at(directory, at)
        if name is None:
            return None
        at += 1 + len(name)
        numbers = directory[at:at + _NUMBERS_SIZE]
        if len(numbers) < _NUMBERS_SIZE:
            return None
        rows.append((name, number_of(numbers[:3]), number_of(numbers[3:6]), number_of(numbers[6:])))
        at += _NUMBERS_SIZE
    return rows if at == len(directory) else None


def _gone_through(data, rows, limit):
    """The faults that the rows of a directory at this offset show, and the entries of the good rows."""
    sound = sound_entries(data, [offset for name, offset, size, check in rows])
    found = []
    entries = {}
    position = 0
    for row in rows:
        name, offset = row[:2]
        if offset < position or name in entries or not _is_told(data, sound, row, limit):
            found.append(("bad entry", offset))
            continue
        if offset > position:
            found.append(("gap", position))
        _, begin, position = sound[offset]
        entries[name] = data[begin:position]
    if position < limit:
        found.append(("gap", position))
    return found, tuple([(name, payload) for name, payload in entries.items()])


def _is_told(data, sound, row, limit):
    """Whether a row tells of a sound entry that ends at the limit or before."""
    name, offset, size, check = row
    if offset not in sound:
        return False
    told, begin, end = sound[offset]
    return name == told and end <= limit and size == end - begin and check == number_of(data[begin - 4:begin])
