import unittest

from pressroots.errors import BadCount, BadPlaces, BadText, TooLong
from pressroots.led import join_roots, mirror_root, power_root, recode_root
from tests.helper import (
    HUGE, LETTERS, LONG_TEXTS, SOME_TEXTS, WRONG_TEXTS, all_places, all_texts, is_root, mixed, mixed_places,
    wrong_places)

SMALL = [(text, places) for text in all_texts("ab", 4) for places in all_places(len(text))]
SOME = [(text, mixed_places(len(text), seed, share=1 + seed)) for text in SOME_TEXTS for seed in range(4)]
LONG = [(text, mixed_places(128, seed, share=1 + 2 * seed)) for text in LONG_TEXTS for seed in range(3)]
ROOTS = [(text, places) for text, places in SMALL + SOME if len(text) < 12 and is_root(text, places)]
TABLES = [
    {}, {"a": "b"}, {"b": "a"}, {"a": "b", "b": "a"}, {"a": "c", "b": "c"}, {"a": "a"}, {"z": "a", "q": "b"},
    {"a": "b", "b": "c", "c": "a"}, dict(zip(LETTERS, LETTERS[::-1])), dict(zip(LETTERS, "x" * 26)),
    dict(zip(LETTERS, LETTERS[1:] + "a")), {"q": "z", "a": "q"}]


class LedCase(unittest.TestCase):
    def see(self, told, text, places):
        """See a pair of a text and of a list, in ascending order and each position once."""
        self.assertIs(type(told), tuple)
        self.assertEqual(told, (text, sorted(set(places))))
        self.assertEqual([type(item) for item in told], [str, list])

    def see_checks(self, ask, *others):
        for text in WRONG_TEXTS:
            with self.subTest(text):
                self.assertRaises(BadText, ask, text, [0], *others)
                self.assertRaises(BadText, ask, text, [HUGE, -1], *others)
        for text in ("z", "abaab", "ab" * 64):
            for places in wrong_places(len(text)):
                with self.subTest(text, places=places):
                    given = list(places)
                    self.assertRaises(BadPlaces, ask, text, places, *others)
                    self.assertEqual(places, given)

    def see_new_lists(self, ask):
        """See that a function does not return the list that it is given, nor change it."""
        for given in ([], [4], [0, 2], [0, 1, 2, 3, 4]):
            places = list(given)
            told = ask(places)[1]
            wanted = list(told)
            self.assertEqual(places, given)
            told.append(77)
            told[0] = 77
            self.assertEqual(places, given)
            self.assertEqual(ask(places)[1], wanted)


class JoinTest(LedCase):
    def test_examples(self):
        self.assertEqual(join_roots("ab", [0, 1], "ba", [0]), ("abba", [0, 1, 2]))
        self.assertEqual(join_roots("ab", [], "ba", []), ("abba", [1]))
        self.assertEqual(join_roots("q", [0], "q", [0]), ("qq", [0, 1]))
        self.assertEqual(join_roots("abc", [0, 2], "d", [0]), ("abcd", [0, 2, 3]))
        self.assertEqual(join_roots("abc", [0, 1], "de", [1]), ("abcde", [0, 1, 2, 4]))

    def test_against_plain_strings(self):
        for first, places in SMALL[::3] + SOME[::5]:
            for second, others in SMALL[::4] + SOME[::7]:
                self.see(
                    join_roots(first, places, second, others), first + second,
                    places + [len(first) - 1] + [len(first) + other for other in others])

    def test_roots_stay_roots(self):
        for first, places in ROOTS[::4]:
            for second, others in ROOTS[::5]:
                self.assertTrue(is_root(*join_roots(first, places, second, others)))

    def test_127_128_and_129_letters(self):
        for first in (1, 2, 63, 64, 126, 127, 128):
            text = mixed("abc", first, 1)
            for whole in (127, 128):
                if whole > first:
                    other = mixed("abc", whole - first, 2)
                    self.see(join_roots(text, [0], other, [0]), text + other, [0, first - 1, first])
            other = mixed("abc", 129 - first, 2)
            self.assertRaises(TooLong, join_roots, text, [0], other, [0])
            self.assertRaises(TooLong, join_roots, other, [], text, [])
            self.assertRaises(TooLong, join_roots, text, [0], "a" * 128, [0])

    def test_wrong_arguments_in_their_order(self):
        self.see_checks(join_roots, "ab", [0])
        self.see_checks(join_roots, "B", [-1])
        self.see_checks(join_roots, "ab", [HUGE])
        for first in ("z", "ab" * 64):
            self.see_checks(lambda text, places, first=first: join_roots(first, [0], text, places))
        for text in WRONG_TEXTS:
            # The first list comes before the second text.
            self.assertRaises(BadPlaces, join_roots, "ab", [2], text, [0])
            self.assertRaises(BadText, join_roots, "ab", [1], text, [HUGE])
        # All arguments come before the length.
        self.assertRaises(BadPlaces, join_roots, "a" * 128, [0], "ab", [2])
        self.assertRaises(BadText, join_roots, "a" * 128, [0], "", [])

    def test_new_lists(self):
        self.see_new_lists(lambda places: join_roots("abcde", places, "ab", [0]))
        self.see_new_lists(lambda places: join_roots("ab", [0], "abcde", places))


class PowerTest(LedCase):
    def test_examples(self):
        self.assertEqual(power_root("ab", [0], 1), ("ab", [0]))
        self.assertEqual(power_root("ab", [0], 2), ("abab", [0, 1]))
        self.assertEqual(power_root("ab", [1], 3), ("ababab", [1]))
        self.assertEqual(power_root("ab", [], 3), ("ababab", [1]))
        self.assertEqual(power_root("ab", [], 1), ("ab", []))
        self.assertEqual(power_root("q", [0], 128), ("q" * 128, [0]))

    def test_against_plain_strings(self):
        for text, places in SMALL + SOME + LONG:
            self.see(power_root(text, places, 1), text, places)
            for times in range(2, 128 // len(text) + 1):
                self.see(power_root(text, places, times), text * times, places + [len(text) - 1])

    def test_roots_stay_roots(self):
        for text, places in ROOTS:
            for times in (1, 2, 3):
                self.assertTrue(is_root(*power_root(text, places, times)))

    def test_127_128_and_129_letters(self):
        for length, times in ((1, 127), (127, 1), (1, 128), (128, 1), (2, 64), (64, 2), (32, 4), (4, 32), (42, 3)):
            text = mixed("abc", length, 3)
            self.see(power_root(text, [], times), text * times, [length - 1] if times > 1 else [])
        for length, times in ((1, 129), (3, 43), (43, 3), (65, 2), (128, 2), (2, 65), (127, 2), (128, 129)):
            self.assertRaises(TooLong, power_root, mixed("abc", length, 3), [0], times)

    def test_the_number_of_repetitions(self):
        for text in ("q", "abaab", "ab" * 64):
            for times in (0, -1, -2, -128, -HUGE):
                self.assertRaises(BadCount, power_root, text, [0], times)
            for times in (HUGE, 10 ** 5000):
                self.assertRaises(TooLong, power_root, text, [], times)

    def test_wrong_arguments_in_their_order(self):
        for times in (1, 2, 0, -1, HUGE, -HUGE):
            self.see_checks(power_root, times)

    def test_new_lists(self):
        self.see_new_lists(lambda places: power_root("abcde", places + [4] if not places else places, 1))
        self.see_new_lists(lambda places: power_root("abcde", places, 2))


class MirrorTest(LedCase):
    def test_examples(self):
        self.assertEqual(mirror_root("abc", [0]), ("cba", [2]))
        self.assertEqual(mirror_root("abc", [0, 1]), ("cba", [1, 2]))
        self.assertEqual(mirror_root("abc", []), ("cba", []))
        self.assertEqual(mirror_root("q", [0]), ("q", [0]))

    def test_against_plain_strings(self):
        for text, places in SMALL + SOME + LONG:
            self.see(
                mirror_root(text, places), "".join(reversed(text)), [len(text) - 1 - place for place in places])
            self.assertEqual(mirror_root(*mirror_root(text, places)), (text, places))

    def test_roots_stay_roots(self):
        for text, places in ROOTS:
            self.assertTrue(is_root(*mirror_root(text, places)))

    def test_wrong_arguments(self):
        self.see_checks(mirror_root)

    def test_new_lists(self):
        self.see_new_lists(lambda places: mirror_root("abcde", places or [2]))
        self.assertEqual(mirror_root("abcde", []), ("edcba", []))


class RecodeTest(LedCase):
    def test_examples(self):
        self.assertEqual(recode_root("abcab", [1], {"a": "b", "b": "a"}), ("bacba", [1]))
        self.assertEqual(recode_root("abcab", [1], {"a": "b", "b": "c"}), ("bccbc", [1]))
        self.assertEqual(recode_root("abcab", [], {"a": "x", "c": "x"}), ("xbxxb", []))
        self.assertEqual(recode_root("abcab", [0], {"z": "a"}), ("abcab", [0]))
        self.assertEqual(recode_root("abcab", [0], {}), ("abcab", [0]))

    def test_against_plain_strings(self):
        for text, places in SMALL + SOME + LONG:
            for table in TABLES:
                given = dict(table)
                wanted = text.translate({ord(old): new for old, new in table.items()})
                self.see(recode_root(text, places, table), wanted, places)
                self.assertEqual(list(table.items()), list(given.items()))

    def test_roots_stay_roots(self):
        for text, places in ROOTS[::2]:
            for table in TABLES:
                self.assertTrue(is_root(*recode_root(text, places, table)))

    def test_wrong_arguments(self):
        for table in TABLES[:4]:
            self.see_checks(recode_root, table)

    def test_new_lists(self):
        self.see_new_lists(lambda places: recode_root("abcde", places or [2], {"a": "b"}))
        places = []
        recode_root("abcde", places, {})[1].append(1)
        self.assertEqual(places, [])
