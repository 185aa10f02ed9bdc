"""Makers: presses made from a text, and papers that show how small presses can be."""

from pressroots.copies import Copies
from pressroots.errors import BadPaper
from pressroots.floors import must_keep, paper_of
from pressroots.ladders import Ladder
from pressroots.rows import row_of
from pressroots.rules import Rules
from pressroots.texts import check_text, lies_in


def greedy(text):
    """Return a Copies that takes, from the front, the longest word that occurred before."""
    check_text(text)
    phrases = []
    start = 0
    while start < len(text):
        length = _known(text, start)
        if length:
            phrases.append(("copy", text.find(text[start:start + length]), length))
        else:
            phrases.append(("put", text[start]))
        start = start + max(length, 1)
    return Copies(phrases)


def fresh(text):
    """List a stretch for each phrase of `greedy`, whose word does not occur before it but for the last one."""
    return [(start, min(stop + 1, len(text))) for start, stop in greedy(text).spans()]


def fewest(text, stretches):
    """Return the number of phrases that a paper shows every earlier press to have, or raise BadPaper."""
    check_text(text)
    if not stretches:
        raise BadPaper(0)
    # The first stretch may start anywhere in the text.
    before = 0
    for index, (start, stop) in enumerate(stretches):
        last = index == len(stretches) - 1
        if not lies_in(len(text), start, stop) or start + 1 < before or not _is_fresh(text, start, stop, last):
            raise BadPaper(index)
        before = stop
    return len(stretches)


def by_halves(text):
    """Return a Rules that takes neighbours in twos, round after round, until one name is left."""
    check_text(text)
    known = {}
    for letter in text:
        known.setdefault(("letter", letter), len(known))
    row = [known[("letter", letter)] for letter in text]
    while len(row) > 1:
        pairs = [("pair", row[at], row[at + 1]) for at in range(0, len(row) - 1, 2)]
        for pair in pairs:
            known.setdefault(pair, len(known))
        # The last item of an odd number of items stays as it is.
        row = [known[pair] for pair in pairs] + row[2 * len(pairs):]
    return Rules(list(known))


def quickened(press):
    """Return a Ladder over the root of a press."""
    return Ladder.over(press.text(), press.root())


def pressed(text):
    """Return the Copies of fewer phrases: that of `greedy`, or that of the row of the text."""
    first = greedy(text)
    second = row_of(text).copies()
    return first if first.size() <= second.size() else second


def rating(press):
    """Return the pair of the size of a press and of the size below which no press of its text goes."""
    return (press.size(), must_keep(press.text()))


def can_press(text, size):
    """Return ("yes", phrases), ("no", paper) or ("open", least, best) for a press of at most this size."""
    best = pressed(text)
    least = must_keep(text)
    if best.size() <= size:
        return ("yes", list(best.phrases))
    if size < least:
        return ("no", paper_of(text))
    return ("open", least, best.size())


def _known(text, start):
    """Return the length of the longest word at this start that occurs with a lesser start, or 0."""
    length = 0
    while start + length < len(text) and text.find(text[start:start + length + 1]) < start:
        length += 1
    return length


def _is_fresh(text, start, stop, last):
    """Tell whether a stretch of a paper has a new word of several letters or, as the last one, reaches the end."""
    if last:
        return stop == len(text)
    return start + 1 < stop and text.find(text[start:stop]) == start
