"""Rows of last letters: the letters before the sorted suffixes of a text."""

from pressroots.copies import Copies
from pressroots.errors import BadPress, TooLong
from pressroots.press import Press
from pressroots.texts import MOST, check_text, is_letter, letter_at


def row_of(text):
    """Return the Row of a text."""
    check_text(text)
    # The empty suffix is one of them, and no two suffixes are equal.
    suffixes = sorted([(text[start:], start) for start in range(len(text) + 1)])
    return Row("".join([text[start - 1] if start else "$" for _, start in suffixes]))


class Row(Press):
    """A press of one sign for each suffix: the letter before it, or $ before the whole text."""

    def __init__(self, letters):
        _check_form(letters)
        self.letters = letters

    def verdict(self):
        """Return ("text", text) or ("round", rows)."""
        steps = self.steps()
        # The step of the row with $ is row 0, so that the walk from row 0 stops at the $.
        walk = _round(steps, 0)
        if len(walk) < len(steps):
            left = [row for row in range(len(steps)) if row not in walk]
            return ("round", _round(steps, left[0]))
        backwards = "".join([self.letters[row] for row in walk[:-1]])
        return ("text", backwards[::-1])

    def length(self):
        """Return the number of letters of the text."""
        return len(self.text())

    def size(self):
        """Return twice the number of runs."""
        return 2 * len(self.runs())

    def letter(self, position):
        """Return the letter of the text at a position."""
        return letter_at(self.text(), position)

    def copies(self):
        """Return a Copies of the text, with a put for the first row of each run."""
        text = self.text()
        starts = self.starts()
        rows = {start: row for row, start in enumerate(starts)}
        firsts = [start for start, stop in self.runs()]
        phrases = []
        for place, letter in enumerate(text):
            row = rows[place + 1]
            if row in firsts:
                phrases.append(("put", letter))
            elif phrases and phrases[-1][0] == "copy":
                phrases[-1] = ("copy", phrases[-1][1], phrases[-1][2] + 1)
            else:
                phrases.append(("copy", starts[row - 1] - 1, 1))
        return Copies(phrases)

    def facts(self):
        """List the facts of every press, and the number of runs."""
        return super().facts() + [("runs", len(self.runs()))]

    def steps(self):
        """List the step of each row."""
        return [_before(self.letters, sign, row) for row, sign in enumerate(self.letters)]

    def runs(self):
        """List the longest stretches of rows that have the same letter."""
        listed = []
        for row, sign in enumerate(self.letters):
            if listed and self.letters[row - 1] == sign:
                listed[-1] = (listed[-1][0], row + 1)
            elif sign != "$":
                listed.append((row, row + 1))
        return listed

    def starts(self):
        """List the position at which the suffix of each row begins."""
        steps = self.steps()
        listed = [0] * len(steps)
        row = 0
        for start in range(self.length(), -1, -1):
            listed[row] = start
            row = steps[row]
        return listed

    def spans(self, word):
        """List the rows (low, high) of each suffix of the word, from the empty one on."""
        # A press without a text raises NoText here, before the word is checked.
        self.text()
        check_text(word)
        low = 0
        high = len(self.letters)
        listed = [(low, high)]
        for letter in word[::-1]:
            low = _before(self.letters, letter, low)
            high = _before(self.letters, letter, high)
            listed.append((low, high))
        return listed


def _check_form(letters):
    """Raise the error of the first fault of a row of signs, if there is one."""
    for index, sign in enumerate(letters):
        if not is_letter(sign) and letters.find("$") != index:
            raise BadPress(index)
    if "$" not in letters or letters == "$":
        raise BadPress(len(letters))
    if len(letters) > MOST + 1:
        raise TooLong("a row has at most 129 signs")


def _before(letters, sign, row):
    """Return the number of signs less than this one, plus that of the same signs before a row."""
    # In Python's order of signs, too, $ is less than every letter.
    return len([other for other in letters if other < sign]) + letters[:row].count(sign)


def _round(steps, first):
    """List the rows from the first one on, each the step of the one before, until it comes again."""
    walk = [first]
    # No two rows have the same step, so that the first row is the first one to come again.
    while steps[walk[-1]] != first:
        walk.append(steps[walk[-1]])
    return walk
