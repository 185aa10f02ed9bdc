"""Edits of presses: the phrases of a press, changed as little as an edit of its text needs."""

from pressroots.copies import Copies
from pressroots.errors import TooShort
from pressroots.makers import pressed
from pressroots.phrases import cut_phrase, divided, moved
from pressroots.texts import check_letter, check_position, check_stretch, recoded_letters


def replaced(press, position, letter):
    """Return a Copies of the text with another letter at a position."""
    text = press.text()
    check_position(len(text), position)
    check_letter(letter)
    copies = press.copies()
    parts = _readers(copies, text, position)
    parts[position] = [("put", letter)]
    return Copies(_with_parts(copies, parts))


def inserted(press, position, letter):
    """Return a Copies of the text with a new letter before a position, or at the end."""
    text = press.text()
    # A letter may also be inserted behind the last position.
    check_position(len(text) + 1, position)
    check_letter(letter)
    apart = Copies(_apart(press.copies(), position))
    phrases = [moved(phrase, position, 1) for phrase in apart.phrases]
    phrases.insert(len([end for end in apart.ends() if end < position]), ("put", letter))
    # The constructor raises TooLong if the text has no room for another letter.
    return Copies(phrases)


def deleted(press, position):
    """Return a Copies of the text without the letter at a position."""
    text = press.text()
    check_position(len(text), position)
    if len(text) == 1:
        raise TooShort("the text would have no letter left")
    copies = press.copies()
    parts = _readers(copies, text, position)
    parts[position] = []
    return Copies([moved(phrase, position + 1, -1) for phrase in _with_parts(copies, parts)])


def recoded(press, table):
    """Return a Copies of the text with letters replaced."""
    return Copies([_recoded_phrase(phrase, table) for phrase in press.copies().phrases])


def cut(press, start, stop):
    """Return a Copies of the word of a stretch of the text."""
    text = press.text()
    check_stretch(len(text), start, stop)
    return pressed(text[start:stop])


def _readers(copies, text, position):
    """Map each position that is read from this one to the list of a put of the letter that it reads."""
    sources = copies.sources()
    return {place: [("put", text[position])] for place in range(len(text)) if sources[place] == position}


def _with_parts(copies, parts):
    """List the phrases of a press with other phrases at some positions."""
    listed = []
    for (start, stop), phrase in zip(copies.spans(), copies.phrases):
        listed.extend(cut_phrase(phrase, start, stop, parts))
    return listed


def _apart(copies, position):
    """List the phrases of a press, none of which covers or reads a position and the one before it together."""
    listed = []
    for (start, stop), phrase in zip(copies.spans(), copies.phrases):
        borders = [position]
        if phrase[0] == "copy":
            borders.append(start + position - phrase[1])
        listed.extend(divided(phrase, start, stop, borders))
    return listed


def _recoded_phrase(phrase, table):
    """Return a phrase with the letter of a put replaced."""
    return ("put", recoded_letters(phrase[1], table)) if phrase[0] == "put" else phrase
