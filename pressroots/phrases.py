"""Phrases: what one phrase covers, and what becomes of it when it is moved, divided or cut."""


def reach(phrase):
    """Return the number of positions that a phrase covers."""
    return 1 if phrase[0] == "put" else phrase[2]


def covered(phrases):
    """Return the number of positions that all phrases cover."""
    return sum([reach(phrase) for phrase in phrases])


def moved(phrase, first, by):
    """Return a phrase whose start is increased by a number, if it is not before a position."""
    if phrase[0] == "put" or phrase[1] < first:
        return phrase
    return ("copy", phrase[1] + by, phrase[2])


def divided(phrase, start, stop, borders):
    """List the pieces of a phrase that covers this stretch, divided before some positions."""
    inner = sorted([border for border in borders if start < border < stop])
    if not inner:
        return [phrase]
    pieces = []
    for first, last in zip([start] + inner, inner + [stop]):
        pieces.extend(_piece(phrase, start, first, last))
    return pieces


def cut_phrase(phrase, start, stop, parts):
    """List what a phrase that covers this stretch becomes with other phrases at some of its positions.

    For each of these positions `parts` has the list of the phrases that stand there instead.
    """
    places = [place for place in range(start, stop) if place in parts]
    if not places:
        return [phrase]
    pieces = []
    first = start
    for place in places:
        pieces.extend(_piece(phrase, start, first, place))
        pieces.extend(parts[place])
        first = place + 1
    return pieces + _piece(phrase, start, first, stop)


def _piece(phrase, start, first, stop):
    """List the piece from `first` on of a copy that covers positions from `start` on, if it has a position."""
    return [("copy", phrase[1] + first - start, stop - first)] if first < stop else []
