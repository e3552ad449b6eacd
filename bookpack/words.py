"""Words of texts: numbers, and styles with commas between."""

from bookpack.chapters import are_styles

# No number in a text may have more, and int does not take thousands of them.
_MOST_DIGITS = 9
_DIGITS = "0123456789"


def read_number(word):
    """The number that a word writes; None if it is not written like one, or far too great."""
    if not 1 <= len(word) <= _MOST_DIGITS or not all([c in _DIGITS for c in word]):
        return None
    return int(word) if word == "0" or word[0] != "0" else None


def write_styles(styles):
    """The word of styles, which is empty for none."""
    return ",".join(list(styles))


def read_styles(word):
    """The styles that a word writes, which is empty for none; None if it writes no styles."""
    styles = tuple(word.split(",")) if word else ()
    return styles if are_styles(styles) else None
