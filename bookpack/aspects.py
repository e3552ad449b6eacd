"""Aspects of tokens: the styles and the link of a char, and the kind of an open or close token."""

from bookpack.chapters import STYLES, is_link, sort_of

ASPECTS = ("code", "kind", "link", "slant", "strong")


def takes(aspect, value):
    """Whether a word is an aspect that takes a value."""
    if aspect == "kind":
        return sort_of(value) is not None
    if aspect == "link":
        return value is None or is_link(value)
    return aspect in STYLES and (value is True or value is False)


def fits(token, aspect, value):
    """Whether a token can be given a value that the aspect takes."""
    if aspect != "kind":
        return token[0] == "char"
    if token[0] != "open" and token[0] != "close":
        return False
    return sort_of(token[1]) == sort_of(value)


def value_of(token, aspect):
    """The value that a token has for an aspect that fits it."""
    if aspect == "kind":
        return token[1]
    if aspect == "link":
        return token[3]
    return aspect in token[2]


def with_value(token, aspect, value):
    """The token with another value for an aspect that fits it."""
    if aspect == "kind":
        return (token[0], value)
    word, c, styles, link = token
    if aspect == "link":
        return (word, c, styles, value)
    kept = [style for style in STYLES if (value if style == aspect else style in styles)]
    return (word, c, tuple(kept), link)


def step_cost(token, other):
    """What the step from a token to another one costs, None if there is no step."""
    if token == other:
        return 0
    if token[0] != other[0]:
        return None
    if token[0] == "char":
        return 1 if token[1] == other[1] else None
    return 1 if fits(token, "kind", other[1]) else None


def changes_between(index, token, other):
    """The changes that make another token of the one at an index, where there is a step to it."""
    aspects = ("code", "link", "slant", "strong") if token[0] == "char" else ("kind",)
    return [
        (index, aspect, value_of(other, aspect))
        for aspect in aspects
        if value_of(token, aspect) != value_of(other, aspect)
    ]
