"""Texts that the tests share, and answers found in the plainest way."""

from itertools import product
from unittest import TestCase

HUGE = 10 ** 30
LETTERS = "abcdefghijklmnopqrstuvwxyz"


def all_texts(letters, most):
    """List all texts of 1 to `most` of these letters."""
    return ["".join(signs) for length in range(1, most + 1) for signs in product(letters, repeat=length)]


def mixed(letters, length, seed):
    """Return a text that looks irregular and is the same on every run."""
    text = ""
    for _ in range(length):
        seed = (seed * 1103515245 + 12345) % 2 ** 31
        text += letters[(seed >> 16) % len(letters)]
    return text


def fibonacci(length):
    before, text = "b", "a"
    while len(text) < length:
        before, text = text, text + before
    return text[:length]


LONG_TEXTS = [
    "a" * 128,
    "a" * 127 + "b",
    "b" + "a" * 127,
    "a" * 63 + "b" + "a" * 64,
    "ab" * 64,
    (LETTERS * 5)[:128],
    fibonacci(128),
    mixed("ab", 128, 1),
    mixed("abc", 128, 2),
    mixed(LETTERS, 128, 3),
]

SOME_TEXTS = [
    "z", "zz", "az", "banana", "abracadabra", "mississippi", "zyxwvu", "qqqqqqqq", LETTERS, LETTERS[::-1],
    fibonacci(30), mixed("xyz", 25, 4), mixed("pq", 40, 5), mixed("abcd", 50, 6),
]

# Each string differs from a text or a word at one place only: the first, a middle or the last one.
BAD_SIGNS = "AZ09 \t\n`{@[~!"
WRONG_TEXTS = [""] + ["a" * 129, "ab" * 65, "z" * 1000] + [
    good[:at] + sign + good[at + 1:]
    for good in ("c", "abcde", "z" * 128)
    for at in sorted({0, len(good) // 2, len(good) - 1})
    for sign in BAD_SIGNS
]


def wrong_places(size):
    """List what is no list of positions of a text of this size, each for one reason."""
    last = size - 1
    wrong = [[-1], [-2], [size], [size + 1], [HUGE], [-HUGE], [-1, 0], [last, size], [last, HUGE], [-HUGE, last],
             [0, 0], [last, last], list(range(size + 1)), list(range(-1, size))]
    if size > 1:
        wrong += [[1, 0], [last, 0], [last, last - 1], [0, 1, 1], [0, 0, 1], list(range(size))[::-1],
                  list(range(size)) + [last], list(range(size)) + [0], [-1, last]]
    return wrong


def all_places(size):
    """List all lists of positions of a text of this size."""
    return [[place for place in range(size) if chosen >> place & 1] for chosen in range(2 ** size)]


def mixed_places(size, seed, *, share=3):
    """Return a list of positions that looks irregular, about one position in `share`."""
    return [place for place, sign in enumerate(mixed("x" + "-" * (share - 1), size, seed)) if sign == "x"]


def spots(items):
    """List the first, a middle and the last index of a list."""
    return sorted({0, len(items) // 2, len(items) - 1})


class PressCase(TestCase):
    """A test case that can see more of the errors and of the answers of presses."""

    def refuse(self, error, make, form, index):
        """See that making a press of a form raises an error with this index."""
        with self.subTest(form=form[:9]):
            with self.assertRaises(error) as caught:
                make(form)
            self.assertEqual(caught.exception.index, index)
            self.assertIs(type(caught.exception.index), int)

    def see_new_lists(self, ask):
        """See that changing the list that a question returns changes no later answer."""
        first = ask()
        wanted = list(first)
        self.assertIs(type(first), list)
        first.append(7)
        first[0] = 7
        self.assertEqual(ask(), wanted)
        first.clear()
        self.assertEqual(ask(), wanted)


def plain_words(text):
    """Return the set of all words that occur in the text."""
    size = len(text)
    return {text[start:stop] for start in range(size) for stop in range(start + 1, size + 1)}


def plain_occurrences(text, word):
    return [start for start in range(len(text)) if text.startswith(word, start)]


def plain_ends(text, word):
    return tuple(start + len(word) - 1 for start in plain_occurrences(text, word))


def plain_kinds(text):
    """Find the kinds by comparing the ends of all words."""
    groups = {}
    for word in plain_words(text):
        groups.setdefault(plain_ends(text, word), []).append(len(word))
    found = [(ends, min(lengths), max(lengths)) for ends, lengths in groups.items()]
    return sorted(found, key=lambda kind: (kind[0][0], kind[1]))


def plain_meeting(text, places, word):
    """Return the start of the first occurrence that holds one of the places, or None."""
    for start in plain_occurrences(text, word):
        if set(places) & set(range(start, start + len(word))):
            return start
    return None


def plain_avoided(text, places, longest=128):
    """Return the first word of up to `longest` letters that avoids the list, or None."""
    words = [word for word in plain_words(text) if len(word) <= longest and plain_meeting(text, places, word) is None]
    return min(words, key=lambda word: (len(word), word), default=None)


def is_root(text, places):
    """Tell whether every word has an occurrence that holds one of the places."""
    return plain_avoided(text, places) is None


def plain_judge(text, places, longest=128):
    """Return what `judge_root` tells, found by a walk over all words."""
    word = plain_avoided(text, places, longest)
    if word is not None:
        return ("avoided", word)
    table = []
    for ends, shortest, _ in plain_kinds(text):
        if shortest <= longest:
            start = plain_meeting(text, places, text[ends[0] + 1 - shortest:ends[0] + 1])
            table.append((start, start + shortest))
    return ("root", table)
