import inspect
import unittest

from pressroots.errors import BadText
from pressroots.words import counts, distinct, occurrences
from tests.helper import (
    LETTERS, LONG_TEXTS, SOME_TEXTS, WRONG_TEXTS, all_texts, mixed, plain_occurrences, plain_words)

SMALL_TEXTS = all_texts("ab", 7) + all_texts("abc", 4)
NO_LENGTHS = [0, -1, -2, -128, -10 ** 30, 1000, 10 ** 30]


class OccurrencesTest(unittest.TestCase):
    def test_examples(self):
        self.assertEqual(occurrences("abaababa", "aba"), [0, 3, 5])
        self.assertEqual(occurrences("aaaa", "aa"), [0, 1, 2])
        self.assertEqual(occurrences("aaaa", "aaaa"), [0])
        self.assertEqual(occurrences("banana", "ana"), [1, 3])
        self.assertEqual(occurrences("banana", "nab"), [])
        self.assertEqual(occurrences("z", "z"), [0])
        self.assertEqual(occurrences("z", "a"), [])

    def test_a_word_as_long_as_the_text(self):
        for text in SOME_TEXTS + LONG_TEXTS:
            with self.subTest(text):
                self.assertEqual(occurrences(text, text), [0])
                other = text[:-1] + ("b" if text[-1] == "a" else "a")
                self.assertEqual(occurrences(text, other), [])

    def test_a_word_longer_than_the_text(self):
        self.assertEqual(occurrences("a", "aa"), [])
        self.assertEqual(occurrences("ab", "aba"), [])
        self.assertEqual(occurrences("a", "a" * 128), [])
        self.assertEqual(occurrences("a" * 127, "a" * 128), [])

    def test_texts_of_128_letters(self):
        self.assertEqual(occurrences("a" * 128, "a"), list(range(128)))
        self.assertEqual(occurrences("a" * 128, "a" * 100), list(range(29)))
        self.assertEqual(occurrences("ab" * 64, "ba"), list(range(1, 126, 2)))
        self.assertEqual(occurrences("a" * 127 + "b", "b"), [127])
        self.assertEqual(occurrences("b" + "a" * 127, "b"), [0])

    def test_against_a_plain_search(self):
        words = all_texts("abc", 3) + ["abab", "aaaa", "babba"]
        for text in SMALL_TEXTS:
            for word in words:
                self.assertEqual(occurrences(text, word), plain_occurrences(text, word), (text, word))
        for text in LONG_TEXTS:
            for word in words + [text[5:9], text[100:], text[:50], text[64:66], "z"]:
                self.assertEqual(occurrences(text, word), plain_occurrences(text, word), (text, word))

    def test_a_wrong_text_is_refused(self):
        for text in WRONG_TEXTS:
            with self.subTest(text):
                self.assertRaises(BadText, occurrences, text, "a")
                self.assertRaises(BadText, occurrences, text, "ab" * 64)
                self.assertRaises(BadText, occurrences, text, text)

    def test_a_wrong_word_is_refused(self):
        for word in WRONG_TEXTS:
            with self.subTest(word):
                self.assertRaises(BadText, occurrences, "a", word)
                self.assertRaises(BadText, occurrences, "abcde", word)
                self.assertRaises(BadText, occurrences, "a" * 128, word)

    def test_a_changed_answer_changes_no_later_one(self):
        first = occurrences("banana", "a")
        first.append(99)
        second = occurrences("banana", "a")
        self.assertIsNot(first, second)
        self.assertEqual(second, [1, 3, 5])
        self.assertIs(type(second), list)


class CountsTest(unittest.TestCase):
    def test_examples(self):
        self.assertEqual(counts("abaab"), [2, 3, 3, 2, 1])
        self.assertEqual(counts("banana"), [3, 3, 3, 3, 2, 1])

    def test_one_letter_one_repeated_letter_and_different_letters(self):
        self.assertEqual(counts("q"), [1])
        for length in (2, 3, 26, 127, 128):
            self.assertEqual(counts("q" * length), [1] * length)
        for length in range(1, 27):
            self.assertEqual(counts(LETTERS[:length]), list(range(length, 0, -1)))

    def test_texts_of_128_letters(self):
        self.assertEqual(counts("a" * 127 + "b"), [2] * 127 + [1])
        self.assertEqual(counts("ab" * 64), [2] * 127 + [1])
        self.assertEqual(counts((LETTERS * 5)[:128]), [26] * 103 + list(range(25, 0, -1)))

    def test_against_a_plain_count_of_all_words(self):
        for text in SMALL_TEXTS + SOME_TEXTS + LONG_TEXTS:
            wanted = [0] * len(text)
            for word in plain_words(text):
                wanted[len(word) - 1] += 1
            self.assertEqual(counts(text), wanted, text)

    def test_the_counts_never_fall_by_more_than_one(self):
        texts = [mixed("ab", 20 + 3 * seed, seed) for seed in range(36)]
        for text in SMALL_TEXTS + SOME_TEXTS + LONG_TEXTS + texts:
            numbers = counts(text)
            falls = [k for k in range(1, len(numbers)) if numbers[k] < numbers[k - 1]]
            if falls:
                self.assertEqual(numbers[falls[0] - 1:], list(range(numbers[falls[0] - 1], 0, -1)), text)
            self.assertEqual(numbers[-1], 1)

    def test_a_wrong_text_is_refused(self):
        for text in WRONG_TEXTS:
            with self.subTest(text), self.assertRaises(BadText):
                counts(text)

    def test_a_changed_answer_changes_no_later_one(self):
        first = counts("abaab")
        first[0] = 99
        second = counts("abaab")
        self.assertEqual(second, [2, 3, 3, 2, 1])
        self.assertIs(type(second), list)


class DistinctTest(unittest.TestCase):
    def test_examples(self):
        self.assertEqual(list(distinct("abaab", 2)), ["ab", "ba", "aa"])
        self.assertEqual(list(distinct("abaab", 1)), ["a", "b"])
        self.assertEqual(list(distinct("abaab", 5)), ["abaab"])
        self.assertEqual(list(distinct("mississippi", 1)), ["m", "i", "s", "p"])
        self.assertEqual(list(distinct("q", 1)), ["q"])

    def test_it_is_a_generator(self):
        self.assertTrue(inspect.isgeneratorfunction(distinct))
        self.assertTrue(inspect.isgenerator(distinct("ab", 1)))

    def test_nothing_is_yielded_for_other_lengths(self):
        for text in ["q", "abaab", "a" * 128]:
            for length in NO_LENGTHS + [len(text) + 1]:
                with self.subTest(text, length=length):
                    # One step is enough, and ends also where a faulty walk would hardly end.
                    self.assertIsNone(next(distinct(text, length), None))
            self.assertEqual(list(distinct(text, len(text))), [text])

    def test_in_the_order_of_the_first_occurrences(self):
        for text in SMALL_TEXTS + SOME_TEXTS + LONG_TEXTS:
            words = {length: [] for length in range(1, len(text) + 1)}
            for word in plain_words(text):
                words[len(word)].append((text.index(word), word))
            for length in words:
                wanted = [word for _, word in sorted(words[length])]
                self.assertEqual(list(distinct(text, length)), wanted, (text, length))

    def test_there_are_as_many_as_the_counts_tell(self):
        for text in SOME_TEXTS + LONG_TEXTS:
            for length, number in enumerate(counts(text), 1):
                self.assertEqual(len(list(distinct(text, length))), number)

    def test_two_walks_side_by_side(self):
        first = distinct("abaab", 2)
        second = distinct("abaab", 2)
        third = distinct("abaab", 3)
        self.assertEqual(next(first), "ab")
        self.assertEqual(next(first), "ba")
        self.assertEqual(next(second), "ab")
        self.assertEqual(next(third), "aba")
        self.assertEqual(next(first), "aa")
        self.assertEqual(next(second), "ba")
        self.assertEqual(list(third), ["baa", "aab"])
        self.assertEqual(list(first), [])
        self.assertEqual(list(second), ["aa"])
        self.assertEqual(list(zip(distinct("abab", 2), distinct("abab", 2))), [("ab", "ab"), ("ba", "ba")])

    def test_a_wrong_text_is_refused_when_it_is_iterated(self):
        for text in WRONG_TEXTS:
            for length in [1, 2, len(text)] + NO_LENGTHS:
                with self.subTest(text, length=length):
                    walk = distinct(text, length)
                    self.assertRaises(BadText, next, walk)
