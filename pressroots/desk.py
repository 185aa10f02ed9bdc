"""The desk: presses on shelves with names, and commands that change them or ask about them."""

from pressroots.copies import Copies
from pressroots.edits import cut, deleted, inserted, recoded, replaced
from pressroots.errors import (
    BadCommand, BadLine, BadName, BadScript, Full, NoShelf, NothingToUndo, PressError)
from pressroots.makers import pressed, quickened, rating
from pressroots.search import found
from pressroots.texts import is_letter

ROOM = 512
MOST_NAME = 12
# The number of items of each command, its first word counted.
ITEMS = {
    "put": 3, "join": 4, "power": 4, "mirror": 3, "recode": 4, "cut": 5, "replace": 4, "insert": 4, "delete": 3,
    "quicken": 2, "drop": 2, "text": 2, "letter": 3, "find": 3, "root": 2, "rating": 2}
QUESTIONS = ("text", "letter", "find", "root", "rating")
# The commands whose second item may be a new name.
MAKING = ("put", "join", "power", "mirror", "recode", "cut")


class Desk:
    """A desk keeps presses on shelves; together they have no more phrases than it has room for."""

    def __init__(self, *, room=ROOM):
        if room < 0:
            raise Full("the room is below 0")
        self._room = room
        # Neither this dict nor an earlier one is ever changed: each change makes a new one.
        self._shelves = {}
        # The shelves before each change that can be taken back.
        self._earlier = []

    @property
    def names(self):
        """List the names of all shelves in alphabetical order."""
        return sorted(list(self._shelves))

    @property
    def total(self):
        """Return the number of phrases of all presses."""
        return _total(self._shelves)

    @property
    def room(self):
        """Return the number of phrases that the desk has room for."""
        return self._room

    @room.setter
    def room(self, value):
        """Change the room, or raise Full if the presses need more."""
        self.change_room(value)

    def change_room(self, room):
        """Change the room and return the old one, or raise Full if the presses need more."""
        if room < _total(self._shelves):
            raise Full("the presses need more room")
        before = self._room
        self._room = room
        return before

    def press(self, name):
        """Return the press of a shelf, or raise NoShelf."""
        if name not in self._shelves:
            raise NoShelf(name)
        return self._shelves[name]

    def run(self, command):
        """Run a command and return its result."""
        word = command[0]
        if word not in ITEMS or len(command) != ITEMS[word]:
            raise BadCommand("there is no such command")
        if word in QUESTIONS:
            return _answer(word, self.press(command[1]), command[2:])
        if word == "drop":
            return self._drop(command[1])
        if word in MAKING and not _is_name(command[1]):
            raise BadName("a name has 1 to 12 lowercase letters")
        return self._keep(command[1], self._made(word, command).tidied())

    def run_all(self, commands):
        """Run commands in order and return the list of their results, or change nothing and raise BadScript."""
        shelves = self._shelves
        many = len(self._earlier)
        results = []
        for index, command in enumerate(commands):
            try:
                results.append(self.run(command))
            except PressError:
                self._shelves = shelves
                del self._earlier[many:]
                raise BadScript(index) from None
        # All changes are taken back at once, so that only the shelves before the first one stay listed.
        del self._earlier[many + 1:]
        return results

    def undo(self):
        """Take the last change back and return the number of those that can still be taken back."""
        if not self._earlier:
            raise NothingToUndo("there is no change to take back")
        self._check_room(self._earlier[-1])
        self._shelves = self._earlier.pop()
        return len(self._earlier)

    def written(self):
        """List the written forms of all shelves in alphabetical order of the names."""
        return [name + " " + str(self._shelves[name]) for name in self.names]

    @staticmethod
    def read(lines, *, room=ROOM):
        """Return a desk with the shelves of these lines, or raise BadLine or Full."""
        shelves = {}
        for index, line in enumerate(lines):
            name, _, form = line.partition(" ")
            if name in shelves or not _is_name(name):
                raise BadLine(index)
            shelves[name] = _read_press(form, index)
        desk = Desk(room=room)
        desk._check_room(shelves)
        desk._shelves = shelves
        return desk

    def _check_room(self, shelves):
        """Raise Full if these shelves have more phrases than there is room for."""
        if _total(shelves) > self._room:
            raise Full("the presses need more room")

    def _take(self, shelves):
        """Take these shelves in place of the old ones, which can be taken back, or raise Full."""
        self._check_room(shelves)
        self._earlier.append(self._shelves)
        self._shelves = shelves

    def _keep(self, name, press):
        """Put a press on a shelf and return its number of phrases, or raise Full."""
        shelves = dict(self._shelves)
        shelves[name] = press
        self._take(shelves)
        return len(press.phrases)

    def _drop(self, name):
        """Remove a shelf and return the number of phrases of its press."""
        press = self.press(name)
        self._take({other: kept for other, kept in self._shelves.items() if other != name})
        return len(press.phrases)

    def _made(self, word, command):
        """Return the press that a change puts on a shelf."""
        if word == "put":
            return pressed(command[2])
        if word == "join":
            left = self.press(command[2])
            return left + self.press(command[3])
        if word in MAKING:
            return _made_anew(word, self.press(command[2]), command[3:])
        return _edited(word, self.press(command[1]), command[2:])


def _total(shelves):
    """Return the number of phrases of all presses on some shelves."""
    return sum([len(press.phrases) for press in shelves.values()])


def _is_name(name):
    """Tell whether a string is the name of a shelf."""
    return 1 <= len(name) <= MOST_NAME and all(is_letter(sign) for sign in name)


def _answer(word, press, items):
    """Return the answer to a question about a press."""
    if word == "text":
        return press.text()
    if word == "letter":
        return (press.letter(items[0]), press.depths()[items[0]])
    if word == "find":
        return [start for start, _ in found(press, items[0])]
    return press.root() if word == "root" else rating(press)


def _made_anew(word, press, items):
    """Return the press that is made from another one for a new shelf."""
    if word == "power":
        return press * items[0]
    if word == "mirror":
        return -press
    if word == "recode":
        return recoded(press, items[0])
    return cut(press, items[0], items[1])


def _edited(word, press, items):
    """Return the press that takes the place of another one on its shelf."""
    if word == "replace":
        return replaced(press, items[0], items[1])
    if word == "insert":
        return inserted(press, items[0], items[1])
    if word == "delete":
        return deleted(press, items[0])
    return quickened(press).copies()


def _read_press(form, index):
    """Return the tidied press of a written form, or raise BadLine if it is none or describes no text."""
    try:
        press = Copies.read(form)
    except BadLine:
        raise BadLine(index) from None
    if press.verdict()[0] != "text":
        raise BadLine(index)
    return press.tidied()
