"""The kinds of words of a text: words of one kind end at the same positions."""

from pressroots.texts import check_text
from pressroots.words import occurrences


def kinds(text):
    """List the kinds (ends, shortest, longest) by their first ends, then by their shortest words."""
    check_text(text)
    listed = []
    for word, found in _ends_of_words(text).items():
        ends = tuple(found)
        length = len(word)
        # The words of one kind stand side by side, the shortest one first: they have the same
        # first end, and each length between two lengths of a kind is one of this kind, too.
        if listed and listed[-1][0] == ends:
            listed[-1] = (ends, listed[-1][1], length)
        else:
            listed.append((ends, length, length))
    return listed


def _ends_of_words(text):
    """Map each word that occurs to the list of its ends, ordered by first end, then by length."""
    found = {}
    for end in range(len(text)):
        for start in range(end, -1, -1):
            found.setdefault(text[start:end + 1], []).append(end)
    return found


def kind_of(text, word):
    """Return the kind of the word, or None if the word does not occur in the text."""
    starts = occurrences(text, word)
    ends = tuple([start + len(word) - 1 for start in starts])
    # A word that does not occur has no ends, and no kind is without ends.
    for kind in kinds(text):
        if kind[0] == ends:
            return kind
    return None
