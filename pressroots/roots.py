"""Roots: lists of positions that some occurrence of every word of a text meets."""

from pressroots.errors import NotARoot, TooLong
from pressroots.kinds import kinds
from pressroots.texts import MOST, check_places, check_text, holds, lies_in
from pressroots.words import occurrences

# The longest text of which a root is thinned.
MOST_THINNED = 40


def judge_root(text, places, *, longest=MOST):
    """Return ("root", table), or ("avoided", word) with the first word that avoids the list."""
    check_text(text)
    check_places(len(text), places)
    table = []
    avoided = []
    # A longer word of a kind ends wherever the shortest one does, and holds all that this one holds.
    for ends, length in _asked(text, longest):
        met = [end for end in ends if holds(places, end + 1 - length, end + 1)]
        if met:
            table.append((met[0] + 1 - length, met[0] + 1))
        else:
            avoided.append((length, _ending(text, ends[0], length)))
    if avoided:
        return ("avoided", min(avoided)[1])
    return ("root", table)


def check_table(text, places, table, *, longest=MOST):
    """Tell whether a table of stretches shows that the list is a root of the text."""
    check_text(text)
    check_places(len(text), places)
    shown = set()
    for start, stop in table:
        if not lies_in(len(text), start, stop) or not holds(places, start, stop):
            return False
        shown.add(text[start:stop])
    for ends, length in _asked(text, longest):
        if _ending(text, ends[0], length) not in shown:
            return False
    return True


def check_root(text, places):
    """Raise NotARoot if a list of positions is no root of the text."""
    word = _avoided(text, places)
    if word is not None:
        raise NotARoot(word)


def meeting(text, places, word):
    """Return the start of the first occurrence of the word that meets the list, or None."""
    check_text(text)
    check_places(len(text), places)
    for start in occurrences(text, word):
        if holds(places, start, start + len(word)):
            return start
    return None


def address(text, places, word):
    """Return where the list meets the word, as a pair (index in the list, letters before it), or None."""
    start = meeting(text, places, word)
    if start is None:
        return None
    # The occurrence holds a position of the list, so that the first one from its start on is held.
    index = len([place for place in places if place < start])
    return (index, places[index] - start)


def needed(text, places):
    """List, for each position of a root, a word that avoids the other positions, or None."""
    _check_short_root(text, places)
    return [_avoided(text, _without(places, place)) for place in places]


def thinned(text, places):
    """List the positions of a root that are left when those that are not needed are left out, in order."""
    _check_short_root(text, places)
    left = list(places)
    for place in places:
        others = _without(left, place)
        if _avoided(text, others) is None:
            left = others
    return left


def _asked(text, longest):
    """List the ends and the length of the shortest word of each kind in which this word is not too long."""
    return [(ends, shortest) for ends, shortest, _ in kinds(text) if shortest <= longest]


def _ending(text, end, length):
    """Return the word of so many letters whose last letter stands at a position."""
    return text[end + 1 - length:end + 1]


def _without(places, left_out):
    """List the positions without one of them."""
    return [place for place in places if place != left_out]


def _avoided(text, places):
    """Return the word that the list is told to avoid, or None if the list is a root."""
    kind, told = judge_root(text, places)
    return None if kind == "root" else told


def _check_short_root(text, places):
    """Raise the first error of a text that must be short and of a list that must be a root of it."""
    check_text(text)
    check_places(len(text), places)
    if len(text) > MOST_THINNED:
        raise TooLong("roots are thinned in texts of at most 40 letters")
    check_root(text, places)
