"""Archives put together octet by octet, without the program, as the document tells."""

# What is no octet, and what is no tuple of octets for other reasons.
NO_OCTETS = (256, -1, True, False, None, 1.0, "a", b"a", (), (1,), [1], object(), 10 ** 9)
NO_TUPLES = (None, True, 0, "", "ab", b"ab", [], [1, 2], {}, set(), range(3), object())


def check(octets):
    """The check of [80], octet by octet."""
    made = 7
    for octet in octets:
        made = (made * 257 + octet + 1) % 4294967291
    return made


def big(number, size):
    return tuple(number.to_bytes(size, "big"))


def octets(text):
    return tuple(ord(c) for c in text)


def named(name):
    return (len(name),) + octets(name)


def entry(name, payload, length=None, told=None):
    """The octets of an entry, perhaps with another length and check than those of its payload."""
    length = len(payload) if length is None else length
    told = check(payload) if told is None else told
    return (66, 80, 69) + named(name) + big(length, 3) + big(told, 4) + tuple(payload)


def row(name, offset, payload=(), length=None, told=None):
    """The octets of a row of the directory."""
    length = len(payload) if length is None else length
    told = check(payload) if told is None else told
    return named(name) + big(offset, 3) + big(length, 3) + big(told, 4)


def directory(*rows, count=None):
    return (66, 80, 68) + big(len(rows) if count is None else count, 2) + sum(rows, ())


def end(offset, told):
    """The octets of an end for the octets of a directory."""
    return (66, 80, 90) + big(offset, 3) + big(len(told), 3) + big(check(told), 4)


def closed(body, *rows):
    """Data with this body, and with a directory of these rows behind it."""
    told = directory(*rows)
    return tuple(body) + told + end(len(body), told)


def archive(*entries):
    """The archive of some pairs (name, payload)."""
    body = ()
    rows = []
    for name, payload in entries:
        rows.append(row(name, len(body), payload))
        body = body + entry(name, payload)
    return closed(body, *rows)


def within_directory():
    """Data with an entry that begins within a row of the directory and ends within the end, and its offset."""
    payload = (90, 0, 2, 14, 0, 0, 22)
    inner = entry("a", payload)
    # The last two octets of its check are 66 80, with which the end begins; the body is as long as that takes.
    told = directory(named("filler") + inner[:10])
    return (0,) * 526 + told + end(526, told), 526 + 5 + 7


def sound(data, offset):
    """The sound entry at an offset as (name, payload, end), or None."""
    if data[offset:offset + 3] != (66, 80, 69) or offset + 3 >= len(data):
        return None
    size = data[offset + 3]
    name = data[offset + 4:offset + 4 + size]
    allowed = octets("abcdefghijklmnopqrstuvwxyz0123456789./-")
    if not 1 <= size <= 40 or len(name) < size or any(octet not in allowed for octet in name):
        return None
    at = offset + 4 + size
    numbers = data[at:at + 7]
    if len(numbers) < 7:
        return None
    length = int.from_bytes(numbers[:3], "big")
    payload = data[at + 7:at + 7 + length]
    if length > 150000 or len(payload) < length or int.from_bytes(numbers[3:], "big") != check(payload):
        return None
    return "".join(map(chr, name)), payload, at + 7 + length


def all_sound(data):
    """All sound entries of data, as {offset: (name, payload, end)}."""
    found = {offset: sound(data, offset) for offset in range(len(data))}
    return {offset: told for offset, told in found.items() if told is not None}


def expected_faults(data):
    """The faults of data, straight from the words of [82]."""
    last = len(data) - 13
    tail = data[last:] if last >= 0 else ()
    start = int.from_bytes(tail[3:6], "big")
    length = int.from_bytes(tail[6:9], "big")
    if tail[:3] != (66, 80, 90) or start + length != last:
        return [("no end", 0)]
    told = data[start:last]
    rows = rows_of(told)
    if rows is None or check(told) != int.from_bytes(tail[9:], "big"):
        return [("bad directory", start)]
    found = []
    position = 0
    names = set()
    for name, offset, length, number in rows:
        there = sound(data, offset)
        if (there is None or offset < position or name in names or there[0] != name or len(there[1]) != length
                or check(there[1]) != number or there[2] > start):
            found.append(("bad entry", offset))
            continue
        if offset > position:
            found.append(("gap", position))
        names.add(name)
        position = there[2]
    return found + ([("gap", position)] if position < start else [])


def rows_of(told):
    """The rows of a directory, None if it is not formed."""
    if told[:3] != (66, 80, 68) or len(told) < 5 or int.from_bytes(told[3:5], "big") > 100:
        return None
    rest = told[5:]
    rows = []
    for _ in range(int.from_bytes(told[3:5], "big")):
        size = rest[0] if rest else 0
        name = "".join(map(chr, rest[1:1 + size]))
        if not 1 <= size <= 40 or len(name) < size or name.strip("abcdefghijklmnopqrstuvwxyz0123456789./-"):
            return None
        numbers = rest[1 + size:11 + size]
        if len(numbers) < 10 or any(c not in "abcdefghijklmnopqrstuvwxyz0123456789./-" for c in name):
            return None
        rows.append((name, *[int.from_bytes(part, "big") for part in (numbers[:3], numbers[3:6], numbers[6:])]))
        rest = rest[11 + size:]
    return None if rest else rows
