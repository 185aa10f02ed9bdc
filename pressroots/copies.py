"""Copies: a press of phrases, each a letter or a copy of a piece of the same text."""

from pressroots.errors import BadCount, BadLine, BadPress, BadText, NoText, TooLong
from pressroots.phrases import covered, cut_phrase, moved, reach
from pressroots.press import Press
from pressroots.texts import MOST, check_position, is_letter, letter_at

# No start and no length in a press has more digits than MOST.
MOST_DIGITS = 3


class Copies(Press):
    """A press of phrases ("put", letter) and ("copy", start, length), one behind the other."""

    def __init__(self, phrases):
        _check_form(phrases)
        self.phrases = tuple(phrases)
        self._length = covered(phrases)

    def __iter__(self):
        """Iterate over the phrases."""
        return iter(self.phrases)

    def verdict(self):
        """Return ("text", text), or ("ring", ring) with the first ring."""
        rings = self.rings()
        if rings:
            return ("ring", rings[0])
        return ("text", "".join(_filled(self._puts(), self.sources())))

    def length(self):
        """Return the number of all covered positions, also if there is a ring."""
        return self._length

    def size(self):
        """Return the number of phrases."""
        return len(self.phrases)

    def letter(self, position):
        """Return the letter of the text at a position."""
        return letter_at(self.text(), position)

    def copies(self):
        """Return a Copies with the same phrases, or raise NoText."""
        # A press with a ring raises NoText here.
        self.text()
        return Copies(list(self.phrases))

    def facts(self):
        """List the facts of every press, and the greatest depth."""
        return super().facts() + [("depth", max(self.depths()))]

    def spans(self):
        """List the stretch that each phrase covers."""
        listed = []
        start = 0
        for phrase in self.phrases:
            stop = start + reach(phrase)
            listed.append((start, stop))
            start = stop
        return listed

    def ends(self):
        """List the last position of each phrase."""
        return [stop - 1 for start, stop in self.spans()]

    def sources(self):
        """List the position that each position is read from, None where there is a put."""
        listed = []
        for phrase in self.phrases:
            if phrase[0] == "put":
                listed.append(None)
            else:
                listed.extend(list(range(phrase[1], phrase[1] + phrase[2])))
        return listed

    def _puts(self):
        """List the letter that is put at each position, None where there is a copy."""
        listed = []
        for phrase in self.phrases:
            letter = phrase[1] if phrase[0] == "put" else None
            listed.extend([letter] * reach(phrase))
        return listed

    def chain(self, position):
        """List the positions from this one to its put, each the source of the one before it."""
        check_position(self._length, position)
        return _chain(self.sources(), position)

    def depths(self):
        """List the numbers of steps from each position to its put."""
        sources = self.sources()
        return [len(_chain(sources, place)) - 1 for place in range(len(sources))]

    def rings(self):
        """List all rings in ascending order of their first positions."""
        sources = self.sources()
        walks = [_ring(sources, first) for first in range(len(sources))]
        return [walk for walk in walks if walk]

    def fixed(self, letters):
        """Return a Copies with a put of one of the letters at the first position of each ring."""
        firsts = [ring[0] for ring in self.rings()]
        if len(letters) != len(firsts) or not all(is_letter(sign) for sign in letters):
            raise BadText("there is one lowercase letter for each ring")
        puts = {first: [("put", letter)] for first, letter in zip(firsts, letters)}
        listed = []
        for (start, stop), phrase in zip(self.spans(), self.phrases):
            listed.extend(cut_phrase(phrase, start, stop, puts))
        return Copies(listed)

    def tidied(self):
        """Return a Copies with the same sources in which no two neighbours can be joined."""
        listed = []
        for phrase in self.phrases:
            if listed and _goes_on(listed[-1], phrase):
                listed[-1] = ("copy", listed[-1][1], listed[-1][2] + phrase[2])
            else:
                listed.append(phrase)
        return Copies(listed)

    def is_earlier(self):
        """Tell whether each copy starts before the first position that it covers."""
        for (start, stop), phrase in zip(self.spans(), self.phrases):
            if phrase[0] == "copy" and phrase[1] >= start:
                return False
        return True

    def __add__(self, other):
        """Return the phrases of both presses, the second ones behind the first ones."""
        behind = [moved(phrase, 0, self._length) for phrase in other.phrases]
        # The constructor raises TooLong if the two together cover too many positions.
        return Copies(list(self.phrases) + behind)

    def __mul__(self, other):
        """Return the press with a copy behind it that repeats it, `other` times in all."""
        if other < 1:
            raise BadCount("a press is repeated at least once")
        # The product is compared before anything is built.
        if self._length * other > MOST:
            raise TooLong("the repeated press covers more than 128 positions")
        more = [("copy", 0, (other - 1) * self._length)] if other > 1 else []
        return Copies(list(self.phrases) + more)

    def __neg__(self):
        """Return the press that is read from behind."""
        return Copies([_mirrored(phrase, self._length) for phrase in self.phrases[::-1]])

    def __str__(self):
        """Return the written form."""
        return " ".join([_written(phrase) for phrase in self.phrases])

    @staticmethod
    def read(line):
        """Return the press whose written form is the line, or raise BadLine."""
        phrases = [_read_phrase(word) for word in line.split(" ")]
        try:
            return Copies(phrases)
        except (BadPress, TooLong):
            raise BadLine(0) from None


def _check_form(phrases):
    """Raise the error of the first fault of a list of phrases, if there is one."""
    if not phrases:
        raise BadPress(0)
    for index, phrase in enumerate(phrases):
        if not _is_phrase(phrase):
            raise BadPress(index)
    length = covered(phrases)
    if length > MOST:
        raise TooLong("the phrases cover more than 128 positions")
    for index, phrase in enumerate(phrases):
        if phrase[0] == "copy" and phrase[1] + phrase[2] > length:
            raise BadPress(index)


def _is_phrase(phrase):
    """Tell whether a phrase is right, apart from the length of the press."""
    if phrase[0] == "put":
        return is_letter(phrase[1])
    return phrase[1] >= 0 and phrase[2] >= 1


def _filled(puts, sources):
    """List the letters of all positions, from those of the puts, where there is no ring."""
    letters = list(puts)
    for first in range(len(letters)):
        walk = []
        place = first
        while letters[place] is None:
            walk.append(place)
            place = sources[place]
        # All positions on the way are filled, so that no later walk goes this way again.
        for step in walk:
            letters[step] = letters[place]
    return letters


def _chain(sources, position):
    """List the positions from this one to its put, or raise NoText if the chain never ends."""
    walk = [position]
    place = sources[position]
    while place is not None:
        # A chain of more items than there are positions has one of them twice.
        if len(walk) == len(sources):
            raise NoText("the chain never ends")
        walk.append(place)
        place = sources[place]
    return walk


def _ring(sources, first):
    """Return the ring whose least position is `first`, or the empty list if there is none."""
    walk = [first]
    place = sources[first]
    # The walk may also come into a ring without `first`, where it would never come back.
    while place is not None and place > first and len(walk) < len(sources):
        walk.append(place)
        place = sources[place]
    return walk if place == first else []


def _goes_on(before, phrase):
    """Tell whether the phrase is a copy that reads on where the copy before it stops."""
    return before[0] == "copy" and phrase[0] == "copy" and before[1] + before[2] == phrase[1]


def _mirrored(phrase, length):
    """Return what a phrase of a press of this length reads from behind."""
    return phrase if phrase[0] == "put" else ("copy", length - phrase[1] - phrase[2], phrase[2])


def _written(phrase):
    """Return the written form of a phrase."""
    return phrase[1] if phrase[0] == "put" else f"{phrase[1]}+{phrase[2]}"


def _read_phrase(word):
    """Return the phrase whose written form is the word, or raise BadLine."""
    if is_letter(word):
        return ("put", word)
    start, _, length = word.partition("+")
    if not _is_number(start) or not _is_number(length):
        raise BadLine(0)
    return ("copy", int(start), int(length))


def _is_number(word):
    """Tell whether a word is a decimal number without signs and without leading zeros."""
    return word.isdecimal() and len(word) <= MOST_DIGITS and str(int(word)) == word
