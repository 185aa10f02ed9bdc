"""Search: the occurrences of a word in a press, and where its copies read them from."""

from pressroots.texts import holds
from pressroots.words import occurrences


def found(press, word):
    """List the pairs (start, source) of all occurrences of the word, whose sources are starts, too, or None."""
    text = press.text()
    copies = press.copies()
    ends = copies.ends()
    sources = copies.sources()
    listed = []
    for start in occurrences(text, word):
        # An occurrence without the last position of a phrase lies within one copy.
        whole = not holds(ends, start, start + len(word))
        listed.append((start, sources[start] if whole else None))
    return listed
