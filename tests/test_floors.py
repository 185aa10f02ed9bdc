import unittest

from pressroots.errors import BadPaper, BadText
from pressroots.floors import floor, forced, least_size, lonely, must_keep, paper_of
from tests.helper import (
    HUGE, LETTERS, LONG_TEXTS, SOME_TEXTS, WRONG_TEXTS, PressCase, all_places, all_texts, fibonacci, is_root, mixed,
    plain_occurrences, plain_words, spots)

TEXTS = all_texts("ab", 7) + all_texts("abc", 4) + SOME_TEXTS
MANY_TEXTS = TEXTS + LONG_TEXTS + [mixed("abcd"[:1 + seed % 4], 3 + 5 * seed, seed) for seed in range(25)]
# Texts in which lonely stretches force more positions than words do.
LONELY = [text for text in MANY_TEXTS if len(lonely(text)) > least_size(text)]


def plain_counts(text):
    words = plain_words(text)
    return [len([word for word in words if len(word) == length]) for length in range(1, len(text) + 1)]


def plain_lonely(text):
    """List all lonely stretches by their stops, those with one stop from the greatest start on."""
    size = len(text)
    alone = [(stop, -start) for start in range(size) for stop in range(start + 1, size + 1)
             if len(plain_occurrences(text, text[start:stop])) == 1]
    return [(-start, stop) for stop, start in sorted(alone)]


def plain_chosen(text):
    """List disjoint lonely stretches, found as the document says."""
    chosen, free = [], 0
    stretches = plain_lonely(text)
    while True:
        left = [(start, stop) for start, stop in stretches if start >= free]
        if not left:
            return chosen
        chosen.append(left[0])
        free = left[0][1]


def most_disjoint(stretches, size):
    """Return the greatest number of disjoint ones of these stretches."""
    best = [0] * (size + 1)
    for stop in range(1, size + 1):
        best[stop] = max([best[stop - 1]] + [best[start] + 1 for start, end in stretches if end == stop])
    return best[size]


class FloorTest(unittest.TestCase):
    def test_examples(self):
        self.assertEqual(floor("banana"), (3, 1))
        self.assertEqual(floor("q"), (1, 1))
        self.assertEqual(floor("aaaa"), (1, 1))
        self.assertEqual(floor("aabb"), (2, 1))
        # 4 words of 2 letters give no greater quotient than 2 words of 1 letter.
        self.assertEqual(floor("aabba"), (2, 1))
        self.assertEqual(floor("aaababbbaa"), (8, 3))
        self.assertEqual(least_size("aaababbbaa"), 3)
        self.assertEqual(least_size("banana"), 3)
        self.assertEqual(least_size("a" * 128), 1)
        self.assertEqual(floor(LETTERS), (26, 1))
        self.assertEqual(least_size((LETTERS * 5)[:128]), 26)

    def test_the_greatest_quotient_and_the_least_length_that_has_it(self):
        for text in MANY_TEXTS:
            many, length = floor(text)
            found = plain_counts(text)
            self.assertEqual(found[length - 1], many, text)
            for index, other in enumerate(found):
                # other / (index + 1) is not above many / length, and below it for lesser lengths.
                self.assertLessEqual(other * length, many * (index + 1), text)
                if index + 1 < length:
                    self.assertLess(other * length, many * (index + 1), text)

    def test_greatest_quotients_of_other_lengths(self):
        lengths = {floor(text)[1] for text in MANY_TEXTS + all_texts("ab", 10)}
        self.assertGreater(len(lengths), 2)

    def test_the_least_size(self):
        for text in MANY_TEXTS:
            size = least_size(text)
            found = plain_counts(text)
            for index, many in enumerate(found):
                self.assertGreaterEqual(size * (index + 1), many, text)
            self.assertTrue(any((size - 1) * (index + 1) < many for index, many in enumerate(found)), text)

    def test_quotients_that_are_no_integers(self):
        uneven = [text for text in MANY_TEXTS if floor(text)[0] % floor(text)[1]]
        self.assertGreater(len(uneven), 5)
        for text in uneven:
            many, length = floor(text)
            self.assertEqual(least_size(text), many // length + 1)

    def test_the_kinds_of_values(self):
        for text in ("q", "banana", "a" * 128):
            self.assertEqual([type(floor(text))] + [type(item) for item in floor(text)], [tuple, int, int])
            self.assertIs(type(least_size(text)), int)
            self.assertIs(type(must_keep(text)), int)

    def test_no_root_is_smaller(self):
        for text in all_texts("ab", 6) + all_texts("abc", 4):
            least = min(len(places) for places in all_places(len(text)) if is_root(text, places))
            self.assertLessEqual(must_keep(text), least, text)
            self.assertLessEqual(least_size(text), must_keep(text))

    def test_what_becomes_of_it_when_the_text_is_changed(self):
        texts = all_texts("ab", 4) + ["banana", "abcab", fibonacci(12)]
        for text in texts:
            many, length = floor(text)
            reversed_text = text[::-1]
            self.assertEqual(floor(reversed_text), (many, length))
            for at in range(len(text) + 1):
                edited = [text[:at] + letter + text[at:] for letter in "abc"]
                edited += [text[:at] + letter + text[at + 1:] for letter in "abc"]
                for other in edited + ([text[:at] + text[at + 1:]] if len(text) > 1 else []):
                    # The two quotients differ by at most 1.
                    o_many, o_length = floor(other)
                    self.assertLessEqual(abs(many * o_length - o_many * length), length * o_length, (text, other))
            for second in texts[::3]:
                s_many, s_length = floor(second)
                j_many, j_length = floor(text + second)
                both = many * s_length + s_many * length + length * s_length
                self.assertLessEqual(j_many * length * s_length, both * j_length)
            for times in (2, 3):
                p_many, p_length = floor(text * times)
                self.assertLessEqual(p_many * length, (many + length) * p_length)

    def test_wrong_texts(self):
        for text in WRONG_TEXTS:
            for ask in (floor, least_size, lonely, must_keep, paper_of):
                with self.subTest(text, ask=ask.__name__):
                    self.assertRaises(BadText, ask, text)


class LonelyTest(unittest.TestCase):
    def test_examples(self):
        self.assertEqual(lonely("banana"), [(0, 1), (2, 5)])
        self.assertEqual(lonely("q"), [(0, 1)])
        self.assertEqual(lonely("aaaa"), [(0, 4)])
        self.assertEqual(lonely("abc"), [(0, 1), (1, 2), (2, 3)])
        self.assertEqual(lonely("a" * 128), [(0, 128)])

    def test_against_a_plain_walk(self):
        for text in MANY_TEXTS:
            if len(text) < 60:
                self.assertEqual(lonely(text), plain_chosen(text), text)

    def test_texts_of_128_letters(self):
        for text in LONG_TEXTS[::3]:
            self.assertEqual(lonely(text), plain_chosen(text), text)

    def test_no_list_is_longer(self):
        for text in TEXTS:
            stretches = plain_lonely(text)
            listed = lonely(text)
            self.assertEqual(len(listed), most_disjoint(stretches, len(text)), text)
            # Every lonely stretch holds the last position of a listed one.
            for start, stop in stretches:
                self.assertTrue(any(start < end <= stop for _, end in listed), text)

    def test_a_root_has_a_position_in_each(self):
        for text in all_texts("ab", 5):
            for places in all_places(len(text)):
                if is_root(text, places):
                    for start, stop in lonely(text):
                        self.assertTrue(set(places) & set(range(start, stop)))

    def test_the_kinds_of_values(self):
        for text in ("q", "banana"):
            self.assertIs(type(lonely(text)), list)
            for pair in lonely(text):
                self.assertEqual([type(pair)] + [type(item) for item in pair], [tuple, int, int])
        lonely("banana").clear()
        self.assertEqual(lonely("banana"), [(0, 1), (2, 5)])


class MustKeepTest(unittest.TestCase):
    def test_examples(self):
        self.assertEqual(must_keep("banana"), 3)
        self.assertEqual(must_keep("q"), 1)
        self.assertEqual(must_keep("aaaa"), 1)

    def test_the_greater_one(self):
        self.assertGreater(len(LONELY), 5)
        self.assertGreater(len([text for text in MANY_TEXTS if least_size(text) > len(lonely(text))]), 5)
        self.assertGreater(len([text for text in MANY_TEXTS if least_size(text) == len(lonely(text))]), 5)
        for text in MANY_TEXTS:
            self.assertEqual(must_keep(text), max(least_size(text), len(lonely(text))))


class ForcedTest(PressCase):
    def refuse_words(self, text, words, index):
        given = list(words)
        self.refuse(BadPaper, lambda items: forced(text, ("words", items)), words, index)
        self.assertEqual(words, given)

    def refuse_stretches(self, text, stretches, index):
        given = list(stretches)
        self.refuse(BadPaper, lambda items: forced(text, ("stretches", items)), stretches, index)
        self.assertEqual(stretches, given)

    def test_examples(self):
        self.assertEqual(forced("banana", ("words", ["an", "na", "ba"])), 2)
        self.assertEqual(forced("banana", ("words", ["b", "a", "n"])), 3)
        self.assertEqual(forced("banana", ("words", ["n"])), 1)
        self.assertEqual(forced("banana", ("words", ["an", "na"])), 1)
        self.assertEqual(forced("banana", ("words", ["banana"])), 1)
        self.assertEqual(forced("banana", ("stretches", [(0, 1), (2, 5)])), 2)
        self.assertEqual(forced("banana", ("stretches", [(0, 6)])), 1)
        self.assertEqual(forced("banana", ("stretches", [(0, 2), (2, 6)])), 2)

    def test_the_empty_list(self):
        for text in ("q", "banana", "ab" * 64):
            self.refuse_words(text, [], 0)
            self.refuse_stretches(text, [], 0)

    def test_each_number_of_words(self):
        for text in MANY_TEXTS[::3]:
            for length in sorted({1, 2, 3, len(text)}):
                words = sorted({text[at:at + length] for at in range(len(text) - length + 1)})
                for many in range(1, len(words) + 1):
                    told = forced(text, ("words", words[:many]))
                    self.assertTrue((told - 1) * length < many <= told * length)
                    self.assertEqual(forced(text, ("words", words[-many:])), told)

    def test_each_wrong_word_at_each_place(self):
        for text, right in (("banana", ["an", "na", "ba"]), ("q", ["q"]), (LETTERS, list(LETTERS)),
                            (fibonacci(128), ["abab", "baba", "abaa", "baab", "aaba"])):
            length = len(right[0])
            wrong = ["", "Z" * length, "7" * length, "z" * (length - 1) + "$", " " * length, "z" * (length - 1) + "\n",
                     "a" * 129, "z" * 1000]
            wrong += [word for word in ("zz", "ca", "aaaaa", "bb", "z" * 128, text + "a", "qq") if word not in text]
            self.assertEqual(forced(text, ("words", right)), -(-len(right) // length))
            for word in wrong:
                self.refuse_words(text, [word], 0)
                for at in spots(right + [""]):
                    self.refuse_words(text, right[:at] + [word] + right[at:], at)
                    self.refuse_words(text, right[:at] + [word] + right[at + 1:], at)
                    self.refuse_words(text, right[:at] + [word, "", word], at)

    def test_words_of_another_length(self):
        for text, right in (("banana", ["an", "na", "ba"]), (LETTERS, list(LETTERS))):
            for other in (text[:3], text[-4:], text):
                for at in spots(right)[1:]:
                    self.refuse_words(text, right[:at] + [other] + right[at:], at)
                # Those behind it then are of another length.
                self.refuse_words(text, [other] + right, 1)
        self.refuse_words("banana", ["an", "n"], 1)
        self.refuse_words("banana", ["n", "an"], 1)
        self.refuse_words("banana", ["an", "na", "b"], 2)

    def test_equal_words(self):
        for text, right in (("banana", ["an", "na", "ba"]), (LETTERS, list(LETTERS))):
            for at in spots(right):
                for behind in range(at + 1, len(right) + 1):
                    self.refuse_words(text, right[:behind] + [right[at]] + right[behind:], behind)
        self.refuse_words("banana", ["b", "b"], 1)

    def test_all_disjoint_stretches_of_short_texts(self):
        for text in all_texts("ab", 5):
            alone = plain_lonely(text)
            for first in alone:
                self.assertEqual(forced(text, ("stretches", [first])), 1)
                for second in alone:
                    if second[0] >= first[1]:
                        self.assertEqual(forced(text, ("stretches", [first, second])), 2)
                    else:
                        self.refuse_stretches(text, [first, second], 1)

    def test_each_pair_of_short_texts(self):
        for text in all_texts("ab", 4):
            size = len(text)
            for start in range(-2, size + 3):
                for stop in range(-2, size + 3):
                    if 0 <= start < stop <= size and len(plain_occurrences(text, text[start:stop])) == 1:
                        self.assertEqual(forced(text, ("stretches", [(start, stop)])), 1)
                    else:
                        self.refuse_stretches(text, [(start, stop)], 0)

    def test_each_wrong_stretch_at_each_place(self):
        for text, right in (("banana", [(0, 1), (2, 5)]), (LETTERS, [(at, at + 1) for at in range(26)]),
                            ("a" * 127 + "b", [(0, 127), (127, 128)])):
            size = len(text)
            self.assertEqual(forced(text, ("stretches", right)), len(right))
            wrong = [(-1, 1), (0, size + 1), (size, size + 1), (0, 0), (size, size), (2, 1), (size, 0), (1, 1),
                     (-1, size), (-size, 1 - size), (HUGE, HUGE + 1), (-HUGE, 1), (0, HUGE), (-HUGE, HUGE),
                     (-HUGE, -HUGE + 1), (HUGE, 0), (0, -HUGE)]
            for pair in wrong:
                self.refuse_stretches(text, [pair], 0)
                for at in spots(right + [""]):
                    self.refuse_stretches(text, right[:at] + [pair] + right[at:], at)
                    self.refuse_stretches(text, right[:at] + [pair, (0, 0)] + right[at:], at)

    def test_stretches_that_are_not_lonely(self):
        self.refuse_stretches("banana", [(1, 2)], 0)
        self.refuse_stretches("banana", [(3, 6)], 0)
        self.refuse_stretches("banana", [(0, 1), (1, 4), (4, 6)], 1)
        self.refuse_stretches("banana", [(0, 1), (2, 5), (5, 6)], 2)
        # The only two occurrences overlap.
        self.refuse_stretches("aaa", [(0, 2)], 0)
        self.refuse_stretches("aaa", [(1, 3)], 0)
        self.refuse_stretches("ababa", [(0, 3)], 0)
        self.refuse_stretches("a" * 128, [(0, 127)], 0)
        self.assertEqual(forced("a" * 128, ("stretches", [(0, 128)])), 1)

    def test_stretches_that_touch(self):
        self.assertEqual(forced("abcde", ("stretches", [(0, 2), (2, 3), (3, 5)])), 3)
        self.refuse_stretches("abcde", [(0, 2), (1, 3), (3, 5)], 1)
        self.refuse_stretches("abcde", [(0, 2), (2, 4), (3, 5)], 2)
        self.refuse_stretches("abcde", [(3, 5), (0, 2)], 1)
        self.refuse_stretches("abcde", [(0, 1), (0, 1)], 1)

    def test_wrong_texts_come_first(self):
        for text in WRONG_TEXTS:
            for paper in (("words", []), ("words", ["a"]), ("stretches", []), ("stretches", [(0, 1)]), ("words", [""])):
                self.assertRaises(BadText, forced, text, paper)

    def test_a_paper_forces_no_more_than_a_root_has(self):
        for text in all_texts("ab", 5):
            roots = [places for places in all_places(len(text)) if is_root(text, places)]
            least = min(len(places) for places in roots)
            for length in range(1, len(text) + 1):
                words = sorted({text[at:at + length] for at in range(len(text) - length + 1)})
                self.assertLessEqual(forced(text, ("words", words)), least)


class PaperTest(unittest.TestCase):
    def test_examples(self):
        self.assertEqual(paper_of("banana"), ("words", ["b", "a", "n"]))
        self.assertEqual(paper_of("q"), ("words", ["q"]))
        self.assertEqual(paper_of("aaaa"), ("words", ["a"]))

    def test_the_paper_forces_must_keep(self):
        for text in MANY_TEXTS:
            self.assertEqual(forced(text, paper_of(text)), must_keep(text), text)

    def test_which_paper_it_is(self):
        for text in MANY_TEXTS:
            kind, items = paper_of(text)
            self.assertIs(type(paper_of(text)), tuple)
            self.assertIs(type(items), list)
            if text in LONELY:
                self.assertEqual((kind, items), ("stretches", lonely(text)))
            else:
                length = floor(text)[1]
                words = [text[at:at + length] for at in range(len(text) - length + 1)]
                self.assertEqual((kind, items), ("words", list(dict.fromkeys(words))), text)

    def test_a_changed_paper_changes_no_later_one(self):
        for text in ("banana", LONELY[0], LONELY[-1]):
            kind, items = paper_of(text)
            wanted = list(items)
            items.append(7)
            items[0] = 7
            self.assertEqual(paper_of(text), (kind, wanted))
