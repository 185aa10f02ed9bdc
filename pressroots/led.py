"""Roots led along: what becomes of a root when its text is changed."""

from pressroots.errors import BadCount, TooLong
from pressroots.texts import MOST, check_places, check_text, recoded_letters


def join_roots(text, places, other, others):
    """Return the joined text and a list that is a root of it if both lists are roots."""
    check_text(text)
    check_places(len(text), places)
    check_text(other)
    check_places(len(other), others)
    if len(text) + len(other) > MOST:
        raise TooLong("the joined text has more than 128 letters")
    return (text + other, _with_last(text, places) + [len(text) + place for place in others])


def power_root(text, places, times):
    """Return the repeated text and a list that is a root of it if the given one is a root."""
    check_text(text)
    check_places(len(text), places)
    if times < 1:
        raise BadCount("a text is repeated at least once")
    # The product is compared before anything is built.
    if len(text) * times > MOST:
        raise TooLong("the repeated text has more than 128 letters")
    return (text * times, _with_last(text, places) if times > 1 else list(places))


def mirror_root(text, places):
    """Return the reversed text and a list that is a root of it if the given one is a root."""
    check_text(text)
    check_places(len(text), places)
    last = len(text) - 1
    return (text[::-1], [last - place for place in places[::-1]])


def recode_root(text, places, table):
    """Return the text with letters replaced, and a list that is a root of it if the given one is a root."""
    check_text(text)
    check_places(len(text), places)
    return (recoded_letters(text, table), list(places))


def _with_last(text, places):
    """List the positions and the last position of the text, in ascending order and each once."""
    last = len(text) - 1
    return [place for place in places if place < last] + [last]
