"""Ladders: levels of blocks, each open for the next level or read from elsewhere on its own level."""

from pressroots.copies import Copies
from pressroots.errors import BadPress, TooLong
from pressroots.floors import least_size
from pressroots.press import Press
from pressroots.roots import check_root, meeting
from pressroots.texts import MOST, check_position, check_stretch, check_text, is_letter, lies_in

MOST_LEVELS = 8


class Ladder(Press):
    """A press of levels, each with a pair (block, entry) for each kept block."""

    def __init__(self, length, levels):
        _check_form(length, levels)
        self._length = length
        self.levels = tuple([tuple(level) for level in levels])
        # The entries of each level by their blocks, for the trails.
        self._tables = tuple([dict(level) for level in levels])

    def verdict(self):
        """Return ("text", text)."""
        return ("text", "".join([self.letter(place) for place in range(self._length)]))

    def length(self):
        """Return the number of letters of the text."""
        return self._length

    def size(self):
        """Return the number of closed blocks and of letters."""
        # Only the open blocks above the last level have None as their entry.
        return len([block for level in self.levels for block, entry in level if entry is not None])

    def letter(self, position):
        """Return the letter of the text at a position."""
        level, place = self.trail(position)[-1]
        return self._tables[level][place]

    def copies(self):
        """Return a Copies of the text, with a put for each letter and a copy for each closed block."""
        placed = []
        for reach, level in zip(_reaches(self.levels), self.levels):
            for block, entry in level:
                first = block * reach
                if isinstance(entry, str):
                    placed.append((first, ("put", entry)))
                elif entry is not None:
                    placed.append((first, ("copy", entry, _covered(self._length, block, reach))))
        return Copies([phrase for _, phrase in sorted(placed)])

    def facts(self):
        """List the facts of every press, and the greatest number of steps of a trail."""
        return super().facts() + [("steps", max(len(self.trail(place)) - 1 for place in range(self._length)))]

    def trail(self, position):
        """List the pairs (level, position) on the way from level 0 to the letter of a position."""
        place = check_position(self._length, position)
        level = 0
        walk = [(level, place)]
        reaches = _reaches(self.levels)
        entry = self._tables[level][place // reaches[level]]
        while not isinstance(entry, str):
            if entry is None:
                level += 1
            else:
                place = entry + place % reaches[level]
            walk.append((level, place))
            entry = self._tables[level][place // reaches[level]]
        return walk

    def stretch(self, start, stop):
        """Return the letters of a stretch."""
        check_stretch(self._length, start, stop)
        return "".join([self.letter(place) for place in range(start, stop)])

    def opened(self):
        """List, for each level, the list of its open blocks."""
        return [_open_blocks(level) for level in self.levels]

    @staticmethod
    def over(text, places):
        """Return a ladder whose blocks are open at the positions of a root and beside them."""
        check_root(text, places)
        near = [_near(len(text), places, reach) for reach in _reaches_for(len(text), len(places))]
        return Ladder(len(text), _levels(text, near, places))

    @staticmethod
    def counted(text):
        """Return a ladder whose blocks are open where the word of two neighbours occurs first."""
        check_text(text)
        new = [_new(text, reach) for reach in _reaches_for(len(text), least_size(text))]
        # With all positions listed, the first occurrence of a word is the first one that meets the list.
        return Ladder(len(text), _levels(text, new, list(range(len(text)))))


def _check_form(length, levels):
    """Raise the error of the first fault of a ladder, if there is one."""
    if length > MOST:
        raise TooLong("a text has at most 128 letters")
    if length < 1 or not levels:
        raise BadPress(0)
    if len(levels) > MOST_LEVELS:
        raise BadPress(MOST_LEVELS)
    reaches = _reaches(levels)
    kept = _blocks(length, reaches[0])
    for index, level in enumerate(levels):
        if [block for block, _ in level] != kept or not _are_entries(length, level, reaches[index]):
            raise BadPress(index)
        kept = _halves(length, _open_blocks(level), reaches[index])


def _are_entries(length, level, reach):
    """Tell whether the entries of the kept blocks of a level are right."""
    opened = _open_blocks(level)
    for block, entry in level:
        if isinstance(entry, int):
            if not _is_start(length, opened, entry, _covered(length, block, reach), reach):
                return False
        # A block of the last level, which is one position, has a letter, and no other open block has one.
        elif entry is None:
            if reach == 1:
                return False
        elif reach > 1 or not is_letter(entry):
            return False
    return True


def _is_start(length, opened, start, many, reach):
    """Tell whether so many positions from a start on lie in the text and touch open blocks only."""
    if not lies_in(length, start, start + many):
        return False
    last = (start + many - 1) // reach
    return all(block in opened for block in range(start // reach, last + 1))


def _reaches(levels):
    """List the numbers of positions of a block on each level."""
    return [1 << step for step in range(len(levels) - 1, -1, -1)]


def _reaches_for(length, many):
    """List the numbers of positions of a block on each level, where level 0 has at most `many` blocks."""
    reaches = [1]
    while reaches[0] * many < length:
        reaches = [2 * reaches[0]] + reaches
    return reaches


def _blocks(length, reach):
    """List the numbers of all blocks of a level."""
    return list(range((length + reach - 1) // reach))


def _covered(length, block, reach):
    """Return the number of positions of a block, which is less than `reach` at the end of the text only."""
    return min(reach, length - block * reach)


def _open_blocks(level):
    """List the open blocks of a level."""
    return [block for block, entry in level if not isinstance(entry, int)]


def _halves(length, opened, reach):
    """List the halves of the open blocks of a level that begin inside the text."""
    return [half for block in opened for half in (2 * block, 2 * block + 1) if half * reach < 2 * length]


def _near(length, places, reach):
    """List the blocks of a level that hold a position of the list or stand beside one that does."""
    held = [place // reach for place in places]
    return [block for block in _blocks(length, reach) if block - 1 in held or block in held or block + 1 in held]


def _new(text, reach):
    """List the blocks of a level that are one of two neighbours whose word occurs there first."""
    blocks = _blocks(len(text), reach)
    if len(blocks) == 1:
        return blocks
    firsts = [block for block in blocks[:-1] if text.find(_word(text, block, 2, reach)) == block * reach]
    return [block for block in blocks if block - 1 in firsts or block in firsts]


def _word(text, block, many, reach):
    """Return the word of so many neighbouring blocks of a level."""
    return text[block * reach:(block + many) * reach]


def _levels(text, opened, places):
    """List the levels with these open blocks, where closed blocks are read from what meets the list."""
    reaches = _reaches(opened)
    kept = _blocks(len(text), reaches[0])
    levels = []
    for reach, blocks in zip(reaches, opened):
        level = []
        for block in kept:
            word = _word(text, block, 1, reach)
            if block in blocks:
                level.append((block, word if reach == 1 else None))
            else:
                level.append((block, meeting(text, places, word)))
        levels.append(level)
        kept = _halves(len(text), blocks, reach)
    return levels
