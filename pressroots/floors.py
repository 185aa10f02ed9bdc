"""Floors: numbers of positions that every root of a text has, and papers that show them."""

from pressroots.errors import BadPaper
from pressroots.texts import check_text, lies_in
from pressroots.words import counts, distinct


def floor(text):
    """Return the pair (number of distinct words, their length) of the greatest quotient."""
    best = (0, 1)
    for length, many in enumerate(counts(text), start=1):
        # The products are compared in place of the quotients; of equal ones the first one stays.
        if many * best[1] > best[0] * length:
            best = (many, length)
    return best


def least_size(text):
    """Return the least integer that is not below the number of words of any length, divided by it."""
    many, length = floor(text)
    return _shared(many, length)


def lonely(text):
    """List disjoint stretches whose words occur only once, as many as there can be."""
    check_text(text)
    listed = []
    first = 0
    for stop in range(1, len(text) + 1):
        starts = [start for start in range(first, stop) if _is_lonely(text, start, stop)]
        if starts:
            listed.append((starts[-1], stop))
            first = stop
    return listed


def must_keep(text):
    """Return a number that no root of the text and no size of its presses is below."""
    return max(least_size(text), len(lonely(text)))


def forced(text, paper):
    """Return the number of positions that a paper forces on every root, or raise BadPaper."""
    check_text(text)
    kind, items = paper
    if not items:
        raise BadPaper(0)
    if kind == "words":
        _check_words(text, items)
        return _shared(len(items), len(items[0]))
    _check_stretches(text, items)
    return len(items)


def paper_of(text):
    """Return a paper that forces `must_keep` of the text."""
    alone = lonely(text)
    if least_size(text) < len(alone):
        return ("stretches", alone)
    length = floor(text)[1]
    return ("words", list(distinct(text, length)))


def _shared(many, length):
    """Return the least integer that is not below the quotient of two positive integers."""
    return (many + length - 1) // length


def _is_lonely(text, start, stop):
    """Tell whether the word of a stretch of the text occurs only once."""
    word = text[start:stop]
    return text.find(word) == start and text.find(word, start + 1) < 0


def _check_words(text, words):
    """Raise BadPaper for the first item that is no word of the text, of another length, or there before."""
    for index, word in enumerate(words):
        # What occurs in a text is a word, if it is not empty.
        occurs = word != "" and word in text
        if not occurs or len(word) != len(words[0]) or word in words[:index]:
            raise BadPaper(index)


def _check_stretches(text, stretches):
    """Raise BadPaper for the first stretch that is not in the text, not lonely, or not behind the one before."""
    free = 0
    for index, (start, stop) in enumerate(stretches):
        if not lies_in(len(text), start, stop) or start < free or not _is_lonely(text, start, stop):
            raise BadPaper(index)
        free = stop
