"""What a text, a letter, a position, a stretch and a list of positions are."""

from pressroots.errors import BadPlaces, BadText

MOST = 128


def is_letter(sign):
    """Tell whether a string is a single lowercase letter."""
    return len(sign) == 1 and "a" <= sign <= "z"


def check_text(text):
    """Return the text if it has 1 to MOST letters from a to z, otherwise raise BadText."""
    if not 1 <= len(text) <= MOST:
        raise BadText("a text has 1 to 128 letters")
    for sign in text:
        if not is_letter(sign):
            raise BadText("a text consists of lowercase letters")
    return text


def check_letter(letter):
    """Return a string that is a single lowercase letter, otherwise raise BadText."""
    if not is_letter(letter):
        raise BadText("a letter is a single lowercase letter")
    return letter


def check_position(size, position):
    """Return a position of a text of `size` letters, otherwise raise BadPlaces."""
    if not 0 <= position < size:
        raise BadPlaces("a position is in the text")
    return position


def letter_at(text, position):
    """Return the letter of the text at a position, or raise BadPlaces."""
    return text[check_position(len(text), position)]


def lies_in(size, start, stop):
    """Tell whether a stretch lies in a text of `size` letters."""
    return 0 <= start < stop <= size


def check_stretch(size, start, stop):
    """Return a stretch that lies in a text of `size` letters, otherwise raise BadPlaces."""
    if not lies_in(size, start, stop):
        raise BadPlaces("a stretch lies in the text")
    return (start, stop)


def check_places(size, places):
    """Return a copy of a list of positions of a text of `size` letters, otherwise raise BadPlaces."""
    # Starting below position 0, the test for the ascending order also finds a negative position.
    before = -1
    for place in places:
        if not before < place < size:
            raise BadPlaces("positions ascend strictly and stay in the text")
        before = place
    return list(places)


def holds(places, start, stop):
    """Tell whether a stretch holds a position of the list."""
    return any(start <= place < stop for place in places)


def recoded_letters(text, table):
    """Return the letters with each one that is a key of the table replaced by its value."""
    return "".join([table.get(letter, letter) for letter in text])
