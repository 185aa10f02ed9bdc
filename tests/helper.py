"""Texts that the tests share, and answers found in the plainest way."""

from itertools import product
from unittest import TestCase

LETTERS = "abcdefghijklmnopqrstuvwxyz"


def all_texts(letters, most):
    """List all texts of 1 to `most` of these letters."""
    return ["".join(signs) for length in range(1, most + 1) for signs in product(letters, repeat=length)]


def mixed(letters, length, seed):
    """Return a text that looks irregular and is the same on every run."""
    text = ""
    for _ in range(length):
        seed = (seed * 1103515245 + 12345) % 2 ** 31
        text += letters[(seed >> 16) % len(letters)]
    return text


def fibonacci(length):
    before, text = "b", "a"
    while len(text) < length:
        before, text = text, text + before
    return text[:length]


LONG_TEXTS = [
    "a" * 128,
    "a" * 127 + "b",
    "b" + "a" * 127,
    "a" * 63 + "b" + "a" * 64,
    "ab" * 64,
    (LETTERS * 5)[:128],
    fibonacci(128),
    mixed("ab", 128, 1),
    mixed("abc", 128, 2),
    mixed(LETTERS, 128, 3),
]

SOME_TEXTS = [
    "z", "zz", "az", "banana", "abracadabra", "mississippi", "zyxwvu", "qqqqqqqq", LETTERS, LETTERS[::-1],
    fibonacci(30), mixed("xyz", 25, 4), mixed("pq", 40, 5), mixed("abcd", 50, 6),
]

# Each string differs from a text or a word at one place only: the first, a middle or the last one.
BAD_SIGNS = "AZ09 \t\n`{@[~!"
WRONG_TEXTS = [""] + ["a" * 129, "ab" * 65, "z" * 1000] + [
    good[:at] + sign + good[at + 1:]
    for good in ("c", "abcde", "z" * 128)
    for at in sorted({0, len(good) // 2, len(good) - 1})
    for sign in BAD_SIGNS
]


def spots(items):
    """List the first, a middle and the last index of a list."""
    return sorted({0, len(items) // 2, len(items) - 1})


class PressCase(TestCase):
    """A test case that can see more of the errors and of the answers of presses."""

    def refuse(self, error, make, form, index):
        """See that making a press of a form raises an error with this index."""
        with self.subTest(form=form[:9]):
            with self.assertRaises(error) as caught:
                make(form)
            self.assertEqual(caught.exception.index, index)
            self.assertIs(type(caught.exception.index), int)

    def see_new_lists(self, ask):
        """See that changing the list that a question returns changes no later answer."""
        first = ask()
        wanted = list(first)
        self.assertIs(type(first), list)
        first.append(7)
        first[0] = 7
        self.assertEqual(ask(), wanted)
        first.clear()
        self.assertEqual(ask(), wanted)


def plain_words(text):
    """Return the set of all words that occur in the text."""
    size = len(text)
    return {text[start:stop] for start in range(size) for stop in range(start + 1, size + 1)}


def plain_occurrences(text, word):
    return [start for start in range(len(text)) if text.startswith(word, start)]


def plain_ends(text, word):
    return tuple(start + len(word) - 1 for start in plain_occurrences(text, word))
