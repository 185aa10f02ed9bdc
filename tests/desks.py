"""Desks that the tests share, and what can be seen of them."""

from unittest import TestCase

from pressroots.desk import Desk
from pressroots.errors import NothingToUndo

WRONG_NAMES = [
    "", "a" * 13, "z" * 129, "A", "aB", "a1", "1", "a b", " ", " a", "a ", "a\n", "\n", "a\tb", "a-b", "a_b", "{", "`",
    "a" * 12 + " "]
# All words of commands with items that fit a desk with the shelves x and y.
COMMANDS = {
    "put": ("z", "abc"), "join": ("z", "x", "y"), "power": ("z", "x", 2), "mirror": ("z", "x"),
    "recode": ("z", "x", {"a": "b"}), "cut": ("z", "x", 0, 1), "replace": ("x", 0, "c"), "insert": ("x", 0, "c"),
    "delete": ("x", 0), "quicken": ("x",), "drop": ("x",), "text": ("x",), "letter": ("x", 0), "find": ("x", "a"),
    "root": ("x",), "rating": ("x",)}
QUESTIONS = ["text", "letter", "find", "root", "rating"]
MAKING = ["put", "join", "power", "mirror", "recode", "cut"]


def shown(desk):
    """Return all that a desk tells of its shelves and its room."""
    return (desk.names, desk.total, desk.room, desk.written(), [desk.press(name).phrases for name in desk.names])


def takes(desk):
    """Return how many changes can be taken back, on a desk that is written anew for this."""
    many = 0
    while True:
        try:
            desk.undo()
        except NothingToUndo:
            return many
        many += 1


def filled(**options):
    """Return a desk with the shelves x and y."""
    desk = Desk(**options)
    desk.run(("put", "x", "abab"))
    desk.run(("put", "y", "ccc"))
    return desk


class DeskCase(TestCase):
    def refuse(self, desk, error, command, **attributes):
        """See that a command raises an error and changes nothing."""
        before = shown(desk)
        with self.subTest(command=command):
            with self.assertRaises(error) as caught:
                desk.run(command)
            self.assertIs(type(caught.exception), error)
            for attribute, worth in attributes.items():
                self.assertEqual(getattr(caught.exception, attribute), worth)
        self.assertEqual(shown(desk), before)
