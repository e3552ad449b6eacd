"""Octets: what data is, its check, and the numbers and texts that octets stand for."""

from bookpack.errors import BadOctets

MODULUS = 4294967291
FACTOR = 257
FIRST_CHECK = 7

_LINE_END = 10
# The characters of the octets from 32 on. A tab, which is no text, stands where the octet is none of a text.
_LOW = 32
_SIGNS = (
    " !\"#$\t&'()*+,-./0123456789:;<=>?@ABCDEFGHIJKLMNOPQRSTUVWXYZ[\\]^_`abcdefghijklmnopqrstuvwxyz{|}~"
)
_NO_TEXT = "\t"


def is_data(value):
    """Whether an object is a tuple of octets."""
    return isinstance(value, tuple) and _first_odd(value) is None


def check_of(data):
    """The check of a row of octets."""
    require_data(data)
    return running_check(FIRST_CHECK, data)


def require_data(data):
    """Refuse an object that is no tuple, and a tuple with an element that is no octet."""
    if not isinstance(data, tuple):
        raise BadOctets(None)
    index = _first_odd(data)
    if index is not None:
        raise BadOctets(index)


def running_check(check, octets):
    """What becomes of a check when these octets are added to its row."""
    row = [check] + [octet + 1 for octet in octets]
    factor = FACTOR
    # Neighbors are taken together, then neighbors of what that gives, and so on: with long rows this is much faster
    # than to go from octet to octet.
    while len(row) > 1:
        if len(row) % 2 == 1:
            row = [0] + row
        row = [(high * factor + low) % MODULUS for high, low in zip(row[::2], row[1::2])]
        factor = factor * factor % MODULUS
    return row[0]


def number_of(octets):
    """The number that octets stand for, the highest one first."""
    number = 0
    for octet in octets:
        number = number * 256 + octet
    return number


def number_octets(number, size):
    """The octets of a number, the highest one first."""
    octets = []
    rest = number
    for _ in range(size):
        octets.append(rest % 256)
        rest = rest // 256
    return tuple(octets[::-1])


def text_octets(text):
    """The octets of the characters of a text."""
    return tuple([ord(c) for c in text])


def text_of(octets):
    """The text that octets are; a tab for each one that is neither one of a text nor a line end."""
    return "".join([_sign_of(octet) for octet in octets])


def first_unread(octets, is_rows):
    """The index of the first octet that is none of a text, nor a line end of a row; None if there is none."""
    for index, octet in enumerate(octets):
        if _sign_of(octet) == _NO_TEXT or (octet == _LINE_END and not is_rows):
            return index
    return None


def _first_odd(values):
    """The index of the first element that is no octet; None if there is none."""
    for index, octet in enumerate(values):
        # What is_within tells, written out: data is long.
        if not isinstance(octet, int) or isinstance(octet, bool) or not 0 <= octet <= 255:
            return index
    return None


def _sign_of(octet):
    if octet == _LINE_END:
        return "\n"
    at = octet - _LOW
    return _SIGNS[at] if 0 <= at < len(_SIGNS) else _NO_TEXT
