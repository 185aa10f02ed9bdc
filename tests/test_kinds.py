import unittest

from pressroots.errors import BadText
from pressroots.kinds import kind_of, kinds
from tests.helper import (
    LETTERS, LONG_TEXTS, SOME_TEXTS, WRONG_TEXTS, all_texts, plain_ends, plain_kinds, plain_words)

SMALL_TEXTS = all_texts("ab", 7) + all_texts("xyz", 5)


class KindsTest(unittest.TestCase):
    def test_examples(self):
        self.assertEqual(kinds("aba"), [((0, 2), 1, 1), ((1,), 1, 2), ((2,), 2, 3)])
        self.assertEqual(kinds("q"), [((0,), 1, 1)])
        self.assertEqual(kinds("aa"), [((0, 1), 1, 1), ((1,), 2, 2)])
        self.assertEqual(kinds("ab"), [((0,), 1, 1), ((1,), 1, 2)])
        self.assertEqual(
            kinds("abbb"), [((0,), 1, 1), ((1, 2, 3), 1, 1), ((1,), 2, 2), ((2, 3), 2, 2), ((2,), 3, 3), ((3,), 3, 4)])

    def test_the_kinds_of_values(self):
        for text in ("q", "aba", "a" * 128):
            self.assertIs(type(kinds(text)), list)
            for kind in kinds(text):
                self.assertIs(type(kind), tuple)
                self.assertEqual([type(item) for item in kind], [tuple, int, int])
                self.assertEqual({type(end) for end in kind[0]}, {int})

    def test_against_a_plain_search(self):
        for text in SMALL_TEXTS + SOME_TEXTS:
            self.assertEqual(kinds(text), plain_kinds(text), text)

    def test_texts_of_128_letters(self):
        self.assertEqual(kinds("a" * 128), [(tuple(range(k, 128)), k + 1, k + 1) for k in range(128)])
        for text in LONG_TEXTS:
            self.assertEqual(kinds(text), plain_kinds(text), text)

    def test_different_letters(self):
        self.assertEqual(kinds(LETTERS), [((end,), 1, end + 1) for end in range(26)])

    def test_the_order(self):
        for text in SMALL_TEXTS + SOME_TEXTS + LONG_TEXTS:
            order = [(ends[0], shortest) for ends, shortest, _ in kinds(text)]
            self.assertEqual(order, sorted(set(order)), text)

    def test_the_number_of_kinds(self):
        for text in SMALL_TEXTS + SOME_TEXTS + LONG_TEXTS:
            self.assertLessEqual(len(kinds(text)), max(1, 2 * len(text) - 2), text)
        # These texts have as many kinds as a text of their length can have.
        for length in (1, 3, 4, 5, 40, 128):
            self.assertEqual(len(kinds("a" + "b" * (length - 1))), max(1, 2 * length - 2))

    def test_each_word_is_of_exactly_one_kind(self):
        for text in SMALL_TEXTS + SOME_TEXTS + LONG_TEXTS[:3]:
            words = []
            for ends, shortest, longest in kinds(text):
                longest_word = text[ends[0] - longest + 1:ends[0] + 1]
                for length in range(shortest, longest + 1):
                    word = longest_word[longest - length:]
                    self.assertEqual(plain_ends(text, word), ends)
                    words.append(word)
            self.assertEqual(sorted(words), sorted(plain_words(text)), text)

    def test_ends_of_two_kinds_are_disjoint_or_one_contains_the_other(self):
        for text in SMALL_TEXTS + SOME_TEXTS:
            ends = [set(kind[0]) for kind in kinds(text)]
            for first in ends:
                for second in ends:
                    self.assertIn(first & second, (set(), first, second), text)

    def test_a_wrong_text_is_refused(self):
        for text in WRONG_TEXTS:
            with self.subTest(text), self.assertRaises(BadText):
                kinds(text)

    def test_a_changed_answer_changes_no_later_one(self):
        first = kinds("aba")
        first.pop()
        first[0] = None
        second = kinds("aba")
        self.assertEqual(second, [((0, 2), 1, 1), ((1,), 1, 2), ((2,), 2, 3)])
        self.assertEqual(kind_of("aba", "a"), ((0, 2), 1, 1))


class KindOfTest(unittest.TestCase):
    def test_examples(self):
        self.assertEqual(kind_of("aba", "a"), ((0, 2), 1, 1))
        self.assertEqual(kind_of("aba", "b"), ((1,), 1, 2))
        self.assertEqual(kind_of("aba", "ab"), ((1,), 1, 2))
        self.assertEqual(kind_of("aba", "ba"), ((2,), 2, 3))
        self.assertEqual(kind_of("aba", "aba"), ((2,), 2, 3))

    def test_against_a_plain_search(self):
        for text in SMALL_TEXTS[:254] + SOME_TEXTS[:6]:
            of_ends = {kind[0]: kind for kind in plain_kinds(text)}
            for word in plain_words(text):
                kind = kind_of(text, word)
                self.assertEqual(kind, of_ends[plain_ends(text, word)], (text, word))
                self.assertIs(type(kind), tuple)

    def test_texts_of_128_letters(self):
        self.assertEqual(kind_of("a" * 128, "a" * 128), ((127,), 128, 128))
        self.assertEqual(kind_of("a" * 128, "a" * 3), (tuple(range(2, 128)), 3, 3))
        self.assertEqual(kind_of("a" * 127 + "b", "ab"), ((127,), 1, 128))
        self.assertIsNone(kind_of("a" * 127 + "b", "ba"))
        for text in LONG_TEXTS:
            of_ends = {kind[0]: kind for kind in plain_kinds(text)}
            for word in (text, text[3:], text[:100], text[60:62], text[7:8], text[30:50]):
                self.assertEqual(kind_of(text, word), of_ends[plain_ends(text, word)])

    def test_none_for_a_word_that_does_not_occur(self):
        self.assertIsNone(kind_of("aba", "c"))
        self.assertIsNone(kind_of("aba", "aa"))
        self.assertIsNone(kind_of("aba", "abab"))
        self.assertIsNone(kind_of("a", "a" * 128))
        self.assertIsNone(kind_of("a" * 127, "a" * 128))
        for text in all_texts("ab", 4):
            for word in all_texts("abc", 5):
                self.assertEqual(kind_of(text, word) is None, word not in text)

    def test_a_wrong_text_is_refused(self):
        for text in WRONG_TEXTS:
            with self.subTest(text):
                self.assertRaises(BadText, kind_of, text, "a")
                self.assertRaises(BadText, kind_of, text, text)

    def test_a_wrong_word_is_refused(self):
        for word in WRONG_TEXTS:
            with self.subTest(word):
                self.assertRaises(BadText, kind_of, "a", word)
                self.assertRaises(BadText, kind_of, "abcde", word)
                self.assertRaises(BadText, kind_of, "a" * 128, word)
