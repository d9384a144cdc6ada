"""Names of things: kinds and numbers by turns, each owner ahead of what it owns."""

from cometorest.errors import NoName
from cometorest.kinds import is_name, is_whole

FIGURES = "0123456789"
MOST_FIGURES = 6
MOST_NUMBER = 999999


def is_written_number(text, most_figures):
    if not 1 <= len(text) <= most_figures:
        return False
    if len(text) > 1 and text.startswith("0"):
        return False
    return all([sign in FIGURES for sign in text])


def has_form(thing):
    if not isinstance(thing, str):
        return False
    words = thing.split(".")
    if len(words) % 2 != 0:
        return False
    if not all([is_name(word) for word in words[::2]]):
        return False
    return all([is_written_number(word, MOST_FIGURES) for word in words[1::2]])


def parts_of(kinds, name):
    if not has_form(name):
        raise NoName("a thing's name has kinds and numbers by turns, with points between")
    words = name.split(".")
    above = None
    for word in words[::2]:
        if kinds.of(word).owner != above:
            raise NoName("each kind in a thing's name stands behind its owner's")
        above = word
    owner = ".".join(words[:-2]) if len(words) > 2 else None
    return (above, owner, int(words[-1]))


def name_of(kinds, kind, owner, number):
    above = kinds.of(kind).owner
    if not is_whole(number) or not 0 <= number <= MOST_NUMBER:
        raise NoName("a thing's number is a whole number from 0 to 999999")
    if above is None:
        if owner is not None:
            raise NoName("a thing of this kind has no owner")
        return f"{kind}.{number}"
    if parts_of(kinds, owner)[0] != above:
        raise NoName("the owner is of another kind than this kind's owner")
    return f"{owner}.{kind}.{number}"
