import unittest

from pressroots.copies import Copies
from pressroots.errors import BadPlaces, BadText, NotARoot
from pressroots.floors import least_size
from pressroots.ladders import Ladder
from pressroots.rows import row_of
from pressroots.words import counts
from tests.helper import (
    HUGE, LETTERS, LONG_TEXTS, SOME_TEXTS, WRONG_TEXTS, all_places, all_texts, fibonacci, is_root, mixed,
    mixed_places, plain_avoided, plain_meeting, wrong_places)

SMALL_ROOTS = [
    (text, places) for text in all_texts("ab", 6) for places in all_places(len(text)) if is_root(text, places)]
SOME_ROOTS = [
    (text, places) for text in SOME_TEXTS for seed in range(6)
    for places in [mixed_places(len(text), seed, share=1 + seed % 3)] if is_root(text, places)]
LONG_ROOTS = [(text, list(range(128))) for text in LONG_TEXTS]
LONG_ROOTS += [(text, row_of(text).root()) for text in LONG_TEXTS]
LONG_ROOTS += [("a" * 128, [place]) for place in (0, 1, 63, 64, 100, 127)]
LONG_ROOTS += [
    ("ab" * 64, [63, 64]), ("ab" * 64, [0, 1, 63, 64, 127]), ("a" * 127 + "b", [126, 127]), ("ab" * 63, [62, 63]),
    ("a" * 127, [40]), ("a" * 65, [64]), ("a" * 65, [0, 64])]
ROOTS = SMALL_ROOTS + SOME_ROOTS + LONG_ROOTS
TEXTS = all_texts("ab", 8) + all_texts("abc", 4) + SOME_TEXTS + LONG_TEXTS + [
    mixed("abcd"[:1 + seed % 4], 4 + 4 * seed, seed) for seed in range(31)] + ["q" * many for many in (3, 64, 65, 127)]


def plain_height(length, many):
    return next(height for height in range(10) if 2 ** height * many >= length)


def blocks_of(length, reach):
    return [(first, min(first + reach, length)) for first in range(0, length, reach)]


def plain_near(text, places, reach):
    """List the blocks that hold a position, or stand beside one that does."""
    held = [any(start <= place < stop for place in places) for start, stop in blocks_of(len(text), reach)]
    padded = [False] + held + [False]
    return [block for block in range(len(held)) if True in padded[block:block + 3]]


def plain_new(text, reach):
    """List the blocks that are one of two neighbours whose joined word occurs there first."""
    blocks = blocks_of(len(text), reach)
    if len(blocks) == 1:
        return [0]
    new = set()
    for block in range(len(blocks) - 1):
        start, stop = blocks[block][0], blocks[block + 1][1]
        if text[start:stop] not in text[:stop - 1]:
            new |= {block, block + 1}
    return sorted(new)


class MadeCase(unittest.TestCase):
    def see_form(self, ladder, text, height, find_open, find_start):
        """See that a ladder has this height, these open blocks and these starts of the closed ones."""
        size = len(text)
        self.assertIs(type(ladder), Ladder)
        self.assertEqual(len(ladder.levels), height + 1)
        self.assertEqual(ladder.text(), text)
        kept = list(range(len(blocks_of(size, 2 ** height))))
        for level, pairs in enumerate(ladder.levels):
            reach = 2 ** (height - level)
            blocks = blocks_of(size, reach)
            opened = find_open(reach)
            # Every block that is open by the rule is kept.
            self.assertLessEqual(set(opened), set(kept))
            wanted = []
            for block in kept:
                word = text[blocks[block][0]:blocks[block][1]]
                if block in opened:
                    wanted.append((block, word if reach == 1 else None))
                else:
                    wanted.append((block, find_start(word)))
            self.assertEqual(list(pairs), wanted, (text, level))
            self.assertEqual(ladder.opened()[level], opened)
            below = blocks_of(size, max(1, reach // 2))
            kept = [half for block in opened for half in (2 * block, 2 * block + 1) if half < len(below)]

    def see_same(self, ladder):
        """See that a ladder created from the levels of this one tells the same."""
        other = Ladder(ladder.length(), [list(level) for level in ladder.levels])
        self.assertEqual(other.levels, ladder.levels)
        self.assertEqual(other.facts(), ladder.facts())
        self.assertEqual(other.verdict(), ladder.verdict())
        self.assertEqual(other.opened(), ladder.opened())
        self.assertEqual(other.copies().phrases, ladder.copies().phrases)
        for position in range(0, ladder.length(), 1 + ladder.length() // 5):
            self.assertEqual(other.trail(position), ladder.trail(position))


class OverTest(MadeCase):
    def refuse(self, text, places, word):
        with self.subTest(text, places=places):
            with self.assertRaises(NotARoot) as caught:
                Ladder.over(text, places)
            self.assertEqual(caught.exception.word, word)

    def test_examples(self):
        self.assertEqual(
            Ladder.over("aaaa", [0]).levels,
            (((0, None),), ((0, None), (1, None)), ((0, "a"), (1, "a"), (2, 0), (3, 0))))
        self.assertEqual(Ladder.over("q", [0]).levels, (((0, "q"),),))
        self.assertEqual(Ladder.over("ab", [0, 1]).levels, (((0, "a"), (1, "b")),))

    def test_against_the_rules(self):
        for text, places in ROOTS:
            given = list(places)
            ladder = Ladder.over(text, places)
            self.assertEqual(places, given)
            self.see_form(
                ladder, text, plain_height(len(text), len(places)),
                lambda reach, text=text, places=places: plain_near(text, places, reach),
                lambda word, text=text, places=places: plain_meeting(text, places, word))

    def test_the_bounds(self):
        for text, places in ROOTS:
            ladder = Ladder.over(text, places)
            many, height = len(places), len(ladder.levels) - 1
            for opened in ladder.opened():
                self.assertLessEqual(len(opened), 3 * many)
            self.assertLessEqual(ladder.size(), many * (3 * height + 1))

    def test_a_ladder_of_the_same_levels(self):
        for text, places in ROOTS[::3] + LONG_ROOTS:
            self.see_same(Ladder.over(text, places))

    def test_the_height(self):
        for many, height in ((1, 7), (2, 6), (3, 6), (4, 5), (31, 3), (32, 2), (63, 2), (64, 1), (127, 1), (128, 0)):
            self.assertEqual(len(Ladder.over("a" * 128, list(range(many))).levels), height + 1)
        for length, height in ((1, 0), (2, 1), (3, 2), (4, 2), (5, 3), (64, 6), (65, 7), (127, 7), (128, 7)):
            self.assertEqual(len(Ladder.over("a" * length, [0]).levels), height + 1)

    def test_lists_that_are_no_root(self):
        for text in all_texts("ab", 5) + SOME_TEXTS[:6]:
            for places in all_places(len(text)) if len(text) < 6 else [[], [0], [len(text) - 1]]:
                word = plain_avoided(text, places)
                if word is not None:
                    self.refuse(text, places, word)

    def test_the_empty_list(self):
        for text in SOME_TEXTS + LONG_TEXTS + ["q"]:
            self.refuse(text, [], min(text))

    def test_lists_that_are_no_root_of_128_letters(self):
        self.refuse("ab" * 64, [0], "b")
        self.refuse("a" * 127 + "b", [0], "b")
        self.refuse("a" * 127 + "b", [127], "a")
        self.refuse(fibonacci(128), [0, 1], plain_avoided(fibonacci(128), [0, 1]))

    def test_wrong_texts_and_lists(self):
        for text in WRONG_TEXTS:
            with self.subTest(text):
                for places in ([0], [], [-1], [HUGE]):
                    self.assertRaises(BadText, Ladder.over, text, places)
        for text in ("z", "ab", "abaab", "ab" * 64):
            for places in wrong_places(len(text)):
                with self.subTest(text, places=places):
                    self.assertRaises(BadPlaces, Ladder.over, text, places)

    def test_a_list_that_is_changed_later(self):
        places = [1, 3]
        ladder = Ladder.over("abaab", places)
        wanted = (ladder.levels, ladder.facts())
        places.clear()
        self.assertEqual((ladder.levels, ladder.facts()), wanted)


class CountedTest(MadeCase):
    def test_examples(self):
        self.assertEqual(Ladder.counted("q").levels, (((0, "q"),),))
        self.assertEqual(Ladder.counted("ab").levels, (((0, "a"), (1, "b")),))
        # Of a level with one block this block is open; of the others the first two are.
        self.assertEqual(Ladder.counted("aaaa").levels, (
            ((0, None),), ((0, None), (1, None)), ((0, "a"), (1, "a"), (2, 0), (3, 0))))
        self.assertEqual(Ladder.counted(LETTERS).levels, (tuple(enumerate(LETTERS)),))

    def test_against_the_rules(self):
        for text in TEXTS:
            ladder = Ladder.counted(text)
            self.see_form(
                ladder, text, plain_height(len(text), least_size(text)),
                lambda reach, text=text: plain_new(text, reach), text.find)

    def test_closed_blocks_begin_before_themselves(self):
        for text in TEXTS:
            ladder = Ladder.counted(text)
            for level, pairs in enumerate(ladder.levels):
                reach = 2 ** (len(ladder.levels) - 1 - level)
                for block, entry in pairs:
                    if isinstance(entry, int):
                        self.assertLess(entry, block * reach)
            self.assertTrue(ladder.copies().is_earlier())

    def test_the_bounds(self):
        for text in TEXTS:
            ladder = Ladder.counted(text)
            least, height = least_size(text), len(ladder.levels) - 1
            found = counts(text)
            for level, opened in enumerate(ladder.opened()):
                reach = 2 ** (height - level)
                words = found[4 * reach - 2] if 4 * reach - 1 <= len(text) else 0
                self.assertLessEqual((len(opened) - 5) * reach, words)
                self.assertLessEqual(len(opened), 4 * least + 4)
            self.assertLessEqual(ladder.size(), least * (4 * height + 1) + 4 * height)

    def test_the_size_beside_that_of_any_press(self):
        for text in TEXTS:
            ladder = Ladder.counted(text)
            height = len(ladder.levels) - 1
            presses = [row_of(text), row_of(text).copies(), ladder.copies(), Copies([("put", sign) for sign in text])]
            if text == text[0] * len(text) and len(text) > 1:
                presses.append(Copies([("put", text[0]), ("copy", 0, len(text) - 1)]))
            for press in presses:
                self.assertEqual(press.text(), text)
                self.assertLessEqual(ladder.size(), (8 * height + 1) * press.size())

    def test_a_ladder_of_the_same_levels(self):
        for text in TEXTS[::3] + LONG_TEXTS:
            self.see_same(Ladder.counted(text))

    def test_the_height(self):
        for length, height in ((1, 0), (2, 1), (3, 2), (4, 2), (5, 3), (64, 6), (65, 7), (127, 7), (128, 7)):
            self.assertEqual(len(Ladder.counted("a" * length).levels), height + 1)
        self.assertEqual(len(Ladder.counted("ab" * 64).levels), 7)
        self.assertEqual(len(Ladder.counted((LETTERS * 5)[:128]).levels), 4)

    def test_wrong_texts(self):
        for text in WRONG_TEXTS:
            with self.subTest(text):
                self.assertRaises(BadText, Ladder.counted, text)
