"""The entries of archives: how they are written, and which ones in data are sound."""

from bookpack.octets import FACTOR, FIRST_CHECK, MODULUS, number_octets, number_of, running_check, text_octets, text_of

MOST_NAME = 40
MOST_PAYLOAD = 150000

_MARK = (66, 80, 69)
_NAME_SIGNS = "abcdefghijklmnopqrstuvwxyz0123456789./-"


def is_entry_name(value):
    """Whether an object is a name that an entry may have."""
    return isinstance(value, str) and 1 <= len(value) <= MOST_NAME and all([c in _NAME_SIGNS for c in value])


def name_octets(name):
    """The octets of a name, behind one of its length."""
    return (len(name),) + text_octets(name)


def name_at(octets, at):
    """The name that is written at an index; None if there is none."""
    if at >= len(octets):
        return None
    name = text_of(octets[at + 1:at + 1 + octets[at]])
    return name if len(name) == octets[at] and is_entry_name(name) else None


def entry_octets(name, payload):
    """The octets of an entry; its last ones are the payload."""
    size = number_octets(len(payload), 3)
    check = number_octets(running_check(FIRST_CHECK, payload), 4)
    return _MARK + name_octets(name) + size + check + payload


def marked_offsets(data):
    """The offsets in data at which an entry may begin, ascending."""
    first, second, third = _MARK
    return [
        offset
        for offset, octet in enumerate(data[:-2])
        if octet == first and data[offset + 1] == second and data[offset + 2] == third
    ]


def sound_entries(data, offsets):
    """The sound entries that begin at some offsets, each as its name, and where its payload begins and ends.

    They stand in a dict under their offsets, in the order in which these are given.
    """
    heads = {}
    for offset in offsets:
        head = _head_at(data, offset)
        if head is not None:
            heads[offset] = head
    sums = _sums(data, heads)
    return {
        offset: (name, begin, end)
        for offset, (name, begin, end, check) in heads.items()
        if check == _check_between(sums, begin, end)
    }


def _head_at(data, offset):
    """The name of the entry at an offset, where its payload begins and ends, and its check; None if it is none."""
    if data[offset:offset + 3] != _MARK:
        return None
    name = name_at(data, offset + 3)
    if name is None:
        return None
    at = offset + 4 + len(name)
    begin = at + 7
    size = number_of(data[at:at + 3])
    if size > MOST_PAYLOAD or begin + size > len(data):
        return None
    return name, begin, begin + size, number_of(data[at + 3:begin])


def _sums(data, heads):
    """For each place where a payload begins or ends the check of all octets before it, if it began as 0."""
    places = {}
    for name, begin, end, check in heads.values():
        places[begin] = True
        places[end] = True
    sums = {}
    running = 0
    before = 0
    for place in sorted([int(place) for place in places]):
        running = running_check(running, data[before:place])
        before = place
        sums[place] = running
    return sums


def _check_between(sums, begin, end):
    """The check of the octets between two places."""
    # A check is a sum in which what it began as and each octet have factors of their own. So it need not be worked
    # out for each payload anew, of which many may have octets in common.
    return (sums[end] + (FIRST_CHECK - sums[begin]) * _factor_of(end - begin)) % MODULUS


def _factor_of(count):
    """What so many octets that follow multiply a check by."""
    made = 1
    power = FACTOR
    rest = count
    while rest > 0:
        if rest % 2 == 1:
            made = made * power % MODULUS
        power = power * power % MODULUS
        rest = rest // 2
    return made
