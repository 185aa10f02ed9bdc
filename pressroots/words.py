"""The words of a text: where they occur and how many there are."""

from pressroots.texts import check_text


def occurrences(text, word):
    """List the starts of all occurrences of the word in the text, in ascending order."""
    check_text(text)
    check_text(word)
    length = len(word)
    return [start for start in range(len(text) - length + 1) if text[start:start + length] == word]


def counts(text):
    """List the numbers of distinct words of 1, 2, .. letters, up to the whole text."""
    check_text(text)
    return [_count(text, length) for length in range(1, len(text) + 1)]


def _count(text, length):
    """Return the number of distinct words of this length, which is not above that of the text."""
    return len({text[start:start + length] for start in range(len(text) - length + 1)})


def distinct(text, length):
    """Yield the distinct words of this length in the order of their first occurrences."""
    check_text(text)
    # Without this test the empty word would be yielded for a length of 0.
    if length < 1:
        return
    for start in range(len(text) - length + 1):
        word = text[start:start + length]
        if text.find(word) == start:
            yield word
