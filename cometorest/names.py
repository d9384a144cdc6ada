"""Names of things: kinds and numbers by turns, each owner ahead of what it owns."""

from cometorest.errors import NoName
from cometorest.kinds import is_whole

FIGURES = "0123456789"
MOST_FIGURES = 6
MOST_NUMBER = 999999


def is_written_number(text):
    if not 1 <= len(text) <= MOST_FIGURES:
        return False
    if len(text) > 1 and text.startswith("0"):
        return False
    return all([sign in FIGURES for sign in text])


def words_of(name):
    if not isinstance(name, str):
        raise NoName("a thing's name is a text")
    words = name.split(".")
    if len(words) % 2 != 0:
        raise NoName("a thing's name has kinds and numbers by turns")
    return words


def parts_of(kinds, name):
    words = words_of(name)
    above = None
    for place in range(0, len(words), 2):
        if kinds.of(words[place]).owner != above:
            raise NoName("each kind in a thing's name stands behind its owner's")
        if not is_written_number(words[place + 1]):
            raise NoName("a number is one to six figures, without a nought ahead")
        above = words[place]
    owner = None
    if len(words) > 2:
        owner = ".".join(words[:-2])
    return (above, owner, int(words[-1]))


def name_of(kinds, kind, owner, number):
    above = kinds.of(kind).owner
    if not is_whole(number) or not 0 <= number <= MOST_NUMBER:
        raise NoName("a thing's number is a whole number from 0 to 999999")
    if above is None:
        if owner is not None:
            raise NoName("a thing of this kind has no owner")
        return f"{kind}.{number}"
    if parts_of(kinds, owner)[0] != above:
        raise NoName("the owner is of another kind than this kind's owner")
    return f"{owner}.{kind}.{number}"
