import unittest

from pressroots.errors import BadPlaces, BadText, NotARoot, TooLong
from pressroots.roots import address, check_table, judge_root, meeting, needed, thinned
from pressroots.words import counts
from tests.helper import (
    HUGE, LETTERS, LONG_TEXTS, SOME_TEXTS, WRONG_TEXTS, all_places, all_texts, is_root, mixed, mixed_places,
    plain_avoided, plain_judge, plain_kinds, plain_meeting, plain_words, spots, wrong_places)

SMALL = [(text, places) for text in all_texts("ab", 6) for places in all_places(len(text))]
SMALLER = [(text, places) for text, places in SMALL if len(text) < 5]
SOME = [(text, mixed_places(len(text), seed, share=1 + seed % 4)) for text in SOME_TEXTS for seed in range(5)]
LONG = [(text, mixed_places(128, seed, share=2 + seed)) for text in LONG_TEXTS for seed in range(3)]
LONG += [(text, places) for text in LONG_TEXTS[:8] for places in (
    [], [0], [127], [64], list(range(128)), list(range(1, 128)), list(range(127)), list(range(0, 128, 2)))]


def longests(text):
    return [0, -1, 1, 2, len(text) - 1, len(text), len(text) + 1, 999, HUGE, -HUGE]


def see_checks(test, ask, others=()):
    """See that a function of a text and a list refuses wrong ones of both, the text first."""
    for text in WRONG_TEXTS:
        with test.subTest(text):
            test.assertRaises(BadText, ask, text, [0], *others)
            test.assertRaises(BadText, ask, text, [HUGE, -1], *others)
    for text in ("z", "ab", "abaab", "ab" * 64):
        for places in wrong_places(len(text)):
            with test.subTest(text, places=places):
                given = list(places)
                test.assertRaises(BadPlaces, ask, text, places, *others)
                test.assertEqual(places, given)


class JudgeTest(unittest.TestCase):
    def test_examples(self):
        self.assertEqual(judge_root("abaab", [1, 3]), ("root", [(3, 4), (1, 2), (1, 3), (2, 4), (2, 5)]))
        self.assertEqual(judge_root("abaab", [1]), ("avoided", "a"))
        self.assertEqual(judge_root("q", [0]), ("root", [(0, 1)]))
        self.assertEqual(judge_root("q", []), ("avoided", "q"))

    def test_against_a_plain_walk_over_all_words(self):
        for text, places in SMALL:
            self.assertEqual(judge_root(text, places), plain_judge(text, places), (text, places))

    def test_longer_texts(self):
        for text, places in SOME:
            self.assertEqual(judge_root(text, places), plain_judge(text, places), (text, places))

    def test_the_limit(self):
        for text, places in SMALL[::7] + SOME[::6]:
            for longest in longests(text):
                self.assertEqual(
                    judge_root(text, places, longest=longest), plain_judge(text, places, longest),
                    (text, places, longest))

    def test_no_word_is_asked_below_1(self):
        for text in ("q", "abaab", "ab" * 64):
            for places in ([], [0]):
                for longest in (0, -1, -HUGE):
                    self.assertEqual(judge_root(text, places, longest=longest), ("root", []))
        # The list is still checked.
        self.assertRaises(BadPlaces, judge_root, "ab", [2], longest=0)
        self.assertRaises(BadText, judge_root, "aB", [2], longest=0)

    def test_the_limit_at_the_avoided_word(self):
        self.assertEqual(judge_root("aab", [1, 2]), ("root", [(1, 2), (0, 2), (2, 3)]))
        self.assertEqual(judge_root("abab", [1, 2])[0], "root")
        self.assertEqual(judge_root("abcbb", [0, 1, 2], longest=1), ("root", [(0, 1), (1, 2), (2, 3)]))
        self.assertEqual(judge_root("abcbb", [0, 1, 2], longest=2), ("avoided", "bb"))
        self.assertEqual(judge_root("abcbb", [0, 1, 2]), ("avoided", "bb"))

    def test_the_fewest_letters_and_then_the_alphabet(self):
        self.assertEqual(judge_root("zyxw", []), ("avoided", "w"))
        self.assertEqual(judge_root("zyxw", [3]), ("avoided", "x"))
        self.assertEqual(judge_root("zyxw", [2, 3]), ("avoided", "y"))
        # "aa" comes before "b" in the alphabet and in the text, but has more letters.
        self.assertEqual(judge_root("acaab", [0, 1]), ("avoided", "b"))
        self.assertEqual(judge_root("acaab", [0, 1, 4]), ("avoided", "aa"))
        # "cb" avoids the list, too, and comes before "bb" in the text.
        self.assertEqual(judge_root("abccbb", [0, 1, 2]), ("avoided", "bb"))
        self.assertEqual(judge_root("abccbb", [0, 1, 2, 5]), ("avoided", "cb"))
        self.assertEqual(judge_root("abccbb", [0, 1, 2, 4])[0], "root")

    def test_the_empty_list(self):
        for text in all_texts("abc", 4) + SOME_TEXTS + LONG_TEXTS:
            self.assertEqual(judge_root(text, []), ("avoided", min(text)))

    def test_the_table_in_the_order_of_the_kinds(self):
        for text in SOME_TEXTS + LONG_TEXTS[:3]:
            for share in (1, 2):
                places = mixed_places(len(text), 5, share=share)
                kind, table = judge_root(text, places)
                if kind == "root":
                    words = [text[ends[0] + 1 - shortest:ends[0] + 1] for ends, shortest, _ in plain_kinds(text)]
                    self.assertEqual([text[start:stop] for start, stop in table], words)
                    self.assertEqual([start for start, _ in table], [plain_meeting(text, places, w) for w in words])

    def test_all_positions_are_a_root(self):
        for text in SOME_TEXTS + LONG_TEXTS:
            kind, table = judge_root(text, list(range(len(text))))
            self.assertEqual(kind, "root")
            words = [text[ends[0] + 1 - shortest:ends[0] + 1] for ends, shortest, _ in plain_kinds(text)]
            self.assertEqual(table, [(text.find(word), text.find(word) + len(word)) for word in words])

    def test_texts_of_128_letters(self):
        self.assertEqual(judge_root("a" * 128, [64]), (
            "root", [(max(0, 64 - k), max(0, 64 - k) + k + 1) for k in range(128)]))
        self.assertEqual(judge_root("ab" * 64, [0]), ("avoided", "b"))
        self.assertEqual(judge_root("ab" * 64, [63])[0], "avoided")
        self.assertEqual(judge_root("ab" * 64, [63, 64])[0], "root")
        self.assertEqual(judge_root("a" * 127 + "b", [126])[0], "avoided")
        self.assertEqual(judge_root("a" * 127 + "b", [126, 127])[0], "root")
        for text, places in LONG[::7]:
            self.assertEqual(judge_root(text, places), plain_judge(text, places), (text, places))

    def test_the_kinds_of_values(self):
        for text, places in (("q", [0]), ("abaab", [1, 3]), ("abaab", [1]), ("abaab", [])):
            told = judge_root(text, places)
            self.assertIs(type(told), tuple)
            self.assertEqual(len(told), 2)
            self.assertIs(type(told[1]), list if told[0] == "root" else str)
            if told[0] == "root":
                for pair in told[1]:
                    self.assertEqual([type(pair)] + [type(item) for item in pair], [tuple, int, int])

    def test_a_changed_table_changes_no_later_one(self):
        first = judge_root("abaab", [1, 3])[1]
        first.append((0, 1))
        first[0] = None
        self.assertEqual(judge_root("abaab", [1, 3]), ("root", [(3, 4), (1, 2), (1, 3), (2, 4), (2, 5)]))

    def test_the_list_stays_as_it_was(self):
        for places in ([], [1], [1, 3], [0, 1, 2, 3, 4]):
            given = list(places)
            judge_root("abaab", places)
            check_table("abaab", places, [(0, 1)])
            meeting("abaab", places, "a")
            address("abaab", places, "a")
            self.assertEqual(places, given)

    def test_wrong_texts_and_lists(self):
        see_checks(self, judge_root)
        for longest in (0, 1, -HUGE, HUGE):
            see_checks(self, lambda text, places, longest=longest: judge_root(text, places, longest=longest))


class CheckTableTest(unittest.TestCase):
    def see(self, text, places, table, wanted, **limit):
        given = list(table)
        told = check_table(text, places, table, **limit)
        self.assertIs(told, wanted, (text, places, table))
        self.assertEqual(table, given)

    def roots(self):
        return [(text, places) for text, places in SMALL[::7] + SOME + LONG[::4] if places and
                judge_root(text, places)[0] == "root"]

    def test_the_table_that_is_told(self):
        for text, places in self.roots():
            table = judge_root(text, places)[1]
            self.see(text, places, table, True)
            self.see(text, places, table[::-1], True)
            self.see(text, places, sorted(table), True)
            self.see(text, places, table + table, True)
            self.see(text, places, table + [(0, len(text))], True)
            self.see(text, places, [(places[0], places[0] + 1)] + table, True)
            self.see(text, places, [], False)

    def test_a_pair_left_out(self):
        for text, places in self.roots():
            table = judge_root(text, places)[1]
            for at in spots(table):
                self.see(text, places, table[:at] + table[at + 1:], False)

    def test_a_wrong_pair_too_many(self):
        for text, places in self.roots():
            size = len(text)
            table = judge_root(text, places)[1]
            wrong = [
                (-1, 1), (-1, size), (0, size + 1), (size - 1, size + 1), (size, size), (size, size + 1), (0, 0),
                (places[0], places[0]), (places[0] + 1, places[0]), (size, 0), (1, 0), (-HUGE, HUGE), (0, HUGE),
                (-HUGE, size), (HUGE, HUGE + 1), (HUGE, 0), (0, -HUGE), (-size, -size + 1), (-1, 0), (-2, -1)]
            free = [place for place in range(size) if place not in places]
            wrong += [(place, place + 1) for place in free[:2]]
            for pair in wrong:
                self.see(text, places, table + [pair], False)
                self.see(text, places, [pair] + table, False)
                self.see(text, places, table[:1] + [pair] + table[1:], False)

    def test_a_wrong_pair_in_place_of_a_right_one(self):
        for text, places in self.roots()[::3]:
            table = judge_root(text, places)[1]
            for at in spots(table):
                start, stop = table[at]
                for pair in [(stop, start), (start + HUGE, stop + HUGE), (start - HUGE, stop), (start, stop + HUGE),
                             (start - len(text), stop - len(text))]:
                    self.see(text, places, table[:at] + [pair] + table[at + 1:], False)

    def test_an_occurrence_that_does_not_meet_the_list(self):
        # Each of "a" and "b" occurs where there is no position of the list, too.
        self.assertEqual(judge_root("abab", [1, 2]), ("root", [(2, 3), (1, 2), (1, 3), (1, 4)]))
        self.see("abab", [1, 2], [(2, 3), (1, 2), (1, 3), (1, 4)], True)
        self.see("abab", [1, 2], [(0, 1), (1, 2), (1, 3), (1, 4)], False)
        self.see("abab", [1, 2], [(2, 3), (3, 4), (1, 3), (1, 4)], False)
        self.see("abab", [1, 2], [(2, 3), (1, 2), (1, 3), (1, 4), (0, 1)], False)

    def test_another_occurrence_that_meets_the_list(self):
        self.assertEqual(judge_root("aaaa", [1, 2]), ("root", [(1, 2), (0, 2), (0, 3), (0, 4)]))
        self.see("aaaa", [1, 2], [(2, 3), (2, 4), (1, 4), (0, 4)], True)
        self.see("aaaa", [1, 2], [(2, 3), (2, 4), (0, 4)], False)
        self.see("aaaa", [1, 2], [(3, 4), (2, 4), (1, 4), (0, 4)], False)

    def test_every_pair_of_short_texts(self):
        for text, places in SMALLER:
            size = len(text)
            pairs = [(start, stop) for start in range(-1, size + 2) for stop in range(-1, size + 2)]
            right = [(start, stop) for start, stop in pairs if 0 <= start < stop <= size
                     and set(places) & set(range(start, stop))]
            root = is_root(text, places)
            self.see(text, places, right, root)
            for pair in pairs:
                self.see(text, places, right + [pair], root and pair in right)

    def test_the_limit(self):
        for text, places in SMALL[::9] + SOME[::6]:
            for longest in longests(text):
                kind, table = plain_judge(text, places, longest)
                if kind == "root":
                    self.see(text, places, table, True, longest=longest)
                    for at in spots(table) if table else []:
                        self.see(text, places, table[:at] + table[at + 1:], False, longest=longest)
                self.see(text, places, [(0, 0)], False, longest=longest)
                self.see(text, places, [], longest < 1, longest=longest)

    def test_no_table_shows_that_another_list_is_a_root(self):
        for text, places in SMALL[::3]:
            if not is_root(text, places):
                size = len(text)
                right = [(start, stop) for start in range(size) for stop in range(start + 1, size + 1)
                         if set(places) & set(range(start, stop))]
                self.see(text, places, right, False)

    def test_wrong_texts_and_lists(self):
        for table in ([], [(0, 1)], [(HUGE, -HUGE)]):
            see_checks(self, check_table, (table,))
            see_checks(self, lambda text, places, table: check_table(text, places, table, longest=-1), (table,))


class MeetingTest(unittest.TestCase):
    def test_examples(self):
        self.assertEqual(meeting("abaab", [1, 3], "a"), 3)
        self.assertEqual(meeting("abaab", [1, 3], "aa"), 2)
        self.assertEqual(address("abaab", [1, 3], "aa"), (1, 1))
        self.assertEqual(address("abaab", [1, 3], "a"), (1, 0))
        self.assertEqual(address("abaab", [1, 3], "abaab"), (0, 1))

    def test_against_a_plain_walk(self):
        for text, places in SMALL[::2] + SOME[::3]:
            for word in sorted(plain_words(text)):
                start = plain_meeting(text, places, word)
                self.assertEqual(meeting(text, places, word), start, (text, places, word))
                if start is None:
                    self.assertIsNone(address(text, places, word))
                else:
                    held = [place for place in places if start <= place < start + len(word)]
                    self.assertEqual(
                        address(text, places, word), (places.index(min(held)), min(held) - start),
                        (text, places, word))

    def test_words_that_do_not_occur(self):
        for text, places in SMALLER:
            for word in all_texts("abc", 3) + ["a" * 128, text + "a", "b" + text]:
                if word not in text:
                    self.assertIsNone(meeting(text, places, word))
                    self.assertIsNone(address(text, places, word))

    def test_words_that_never_meet_the_list(self):
        self.assertIsNone(meeting("abaab", [], "a"))
        self.assertIsNone(address("abaab", [], "abaab"))
        self.assertIsNone(meeting("abaab", [1], "a"))
        self.assertIsNone(address("abaab", [1], "a"))
        self.assertIsNone(address("abaab", [0], "ba"))
        self.assertIsNone(address("a" * 64 + "b" * 64, [0, 1, 2], "b"))

    def test_texts_of_128_letters(self):
        for text, places in LONG[::2]:
            for start in range(0, 128, 9):
                for length in (1, 2, 5, 30, 128 - start):
                    word = text[start:start + length]
                    wanted = plain_meeting(text, places, word)
                    self.assertEqual(meeting(text, places, word), wanted)
                    told = address(text, places, word)
                    self.assertEqual(told is None, wanted is None)
                    if told is not None:
                        self.assertEqual(places[told[0]] - told[1], wanted)
                        self.assertTrue(told[0] == 0 or places[told[0] - 1] < wanted)

    def test_two_words_of_one_length_never_have_the_same_address(self):
        for text, places in SMALL + SOME + LONG[:12]:
            for length in range(1, len(text) + 1, 1 + len(text) // 20):
                words = {text[start:start + length] for start in range(len(text) - length + 1)}
                told = [address(text, places, word) for word in sorted(words)]
                told = [pair for pair in told if pair is not None]
                self.assertEqual(len(told), len(set(told)), (text, places, length))
                for index, before in told:
                    self.assertTrue(0 <= index < len(places) and 0 <= before < length)

    def test_a_root_is_not_smaller_than_the_counts_say(self):
        for text, places in SMALL + SOME:
            if is_root(text, places):
                for index, many in enumerate(counts(text)):
                    self.assertLessEqual(many, (index + 1) * len(places))

    def test_the_kinds_of_values(self):
        self.assertIs(type(meeting("abaab", [1, 3], "a")), int)
        told = address("abaab", [1, 3], "a")
        self.assertEqual([type(told)] + [type(item) for item in told], [tuple, int, int])

    def test_wrong_texts_lists_and_words(self):
        for ask in (meeting, address):
            for word in ("a", "ab" * 64, "", "B", "a" * 129):
                see_checks(self, ask, (word,))
            for word in WRONG_TEXTS:
                with self.subTest(word):
                    self.assertRaises(BadText, ask, "abaab", [1, 3], word)
                    self.assertRaises(BadText, ask, "abaab", [], word)
                    self.assertRaises(BadText, ask, "b" * 128, [127], word)
                    # A wrong list comes before a wrong word.
                    self.assertRaises(BadPlaces, ask, "abaab", [5], word)
                    self.assertRaises(BadPlaces, ask, "abaab", [2, 1], word)


class ThinnedTest(unittest.TestCase):
    def refuse(self, ask, text, places, word):
        with self.subTest(text, places=places):
            with self.assertRaises(NotARoot) as caught:
                ask(text, places)
            self.assertEqual(caught.exception.word, word)
            self.assertIs(type(caught.exception.word), str)

    def test_examples(self):
        self.assertEqual(needed("abaab", [1, 3]), ["b", "a"])
        self.assertEqual(needed("abaab", [0, 1, 2, 3]), [None, "b", None, None])
        self.assertEqual(needed("abaab", [0, 1, 2, 3, 4]), [None] * 5)
        self.assertEqual(thinned("abaab", [0, 1, 2, 3]), [1, 3])
        self.assertEqual(thinned("abaab", [0, 1, 2, 3, 4]), [2, 4])
        self.assertEqual(needed("q", [0]), ["q"])
        self.assertEqual(thinned("q", [0]), [0])
        self.assertEqual(thinned("aaaa", [0, 1, 2, 3]), [3])
        self.assertEqual(thinned("aaaa", [1]), [1])

    def test_against_a_plain_walk(self):
        for text, places in SMALL[::3] + SOME[::6]:
            if is_root(text, places):
                self.assertEqual(
                    needed(text, places),
                    [plain_avoided(text, [other for other in places if other != place]) for place in places],
                    (text, places))
                left = list(places)
                for place in places:
                    others = [other for other in left if other != place]
                    if is_root(text, others):
                        left = others
                self.assertEqual(thinned(text, places), left, (text, places))

    def test_no_position_of_what_is_left_can_be_left_out(self):
        for text, places in SMALL + SOME:
            if len(text) <= 40 and is_root(text, places):
                left = thinned(text, places)
                self.assertLessEqual(set(left), set(places))
                self.assertEqual(left, sorted(left))
                self.assertEqual(judge_root(text, left)[0], "root")
                self.assertNotIn(None, needed(text, left))
                self.assertEqual(thinned(text, left), left)

    def test_40_and_41_letters(self):
        for letters in ("a", "ab", LETTERS):
            text = mixed(letters, 41, 7)
            every = list(range(41))
            for ask in (needed, thinned):
                ask(text[:40], every[:40])
                for long in (text, text + text, (text * 4)[:128]):
                    self.assertRaises(TooLong, ask, long, list(range(len(long))))
                    # The length comes before the question whether the list is a root.
                    self.assertRaises(TooLong, ask, long, [])
                    self.assertRaises(TooLong, ask, long, [0])
                self.refuse(ask, text[:40], [], min(text[:40]))
        self.assertEqual(needed("a" * 40, list(range(40))), [None] * 40)
        self.assertEqual(thinned("a" * 40, list(range(40))), [39])

    def test_lists_that_are_no_root(self):
        for text, places in SMALL[::2] + SOME:
            if len(text) <= 40:
                word = plain_judge(text, places)[1] if not is_root(text, places) else None
                if word is not None:
                    for ask in (needed, thinned):
                        self.refuse(ask, text, places, word)

    def test_the_lists_stay_as_they_were(self):
        for ask in (needed, thinned):
            for places in ([1, 3], [0, 1, 2, 3, 4]):
                given = list(places)
                told = ask("abaab", places)
                self.assertEqual(places, given)
                self.assertIs(type(told), list)
                self.assertIsNot(told, places)
                told.append(7)
                told[0] = 7
                self.assertEqual(places, given)
                self.assertNotIn(7, ask("abaab", places))

    def test_wrong_texts_and_lists(self):
        for ask in (needed, thinned):
            see_checks(self, ask)
            # Wrong lists come before the length and before the question whether the list is a root.
            self.assertRaises(BadPlaces, ask, "a" * 41, [41])
            self.assertRaises(BadPlaces, ask, "a" * 41, [1, 0])
            self.assertRaises(BadText, ask, "a" * 129, [])
            self.assertRaises(BadPlaces, ask, "abaab", [-1])
