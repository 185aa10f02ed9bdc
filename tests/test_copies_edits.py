import unittest
from itertools import product

from pressroots.copies import Copies
from pressroots.errors import BadCount, BadText, TooLong
from tests.helper import HUGE
from tests.presses import (
    LONG_PHRASES, MANY_PHRASES, SMALL_PHRASES, SOME_PHRASES, fits, mixed_phrases, plain_covers, plain_rings,
    plain_sources, plain_spans, plain_text)

ALPHABET = "abcdefghijklmnopqrstuvwxyz"


def plain_fixed(phrases, letters):
    """Return the phrases of `fixed`, found position by position."""
    puts = dict(zip([ring[0] for ring in plain_rings(phrases)], letters))
    covers = plain_covers(phrases)
    found = []
    for (start, stop), phrase in zip(plain_spans(phrases), phrases):
        if phrase[0] == "put":
            found.append(phrase)
            continue
        joined = False
        for place in range(start, stop):
            if place in puts:
                found.append(("put", puts[place]))
                joined = False
            elif joined:
                found[-1] = ("copy", found[-1][1], found[-1][2] + 1)
            else:
                found.append(("copy", covers[place], 1))
                joined = True
    return tuple(found)


class FixedTest(unittest.TestCase):
    def test_examples(self):
        press = Copies([("put", "a"), ("copy", 2, 1), ("copy", 1, 1)])
        self.assertEqual(press.fixed("b").phrases, (("put", "a"), ("put", "b"), ("copy", 1, 1)))
        press = Copies([("copy", 0, 4)])
        self.assertEqual(press.fixed("abca").phrases, (("put", "a"), ("put", "b"), ("put", "c"), ("put", "a")))

    def test_a_phrase_is_cut_at_several_positions(self):
        # Positions 1, 3 and 4 are rings of one; 0 and 2 are read from the put at 5.
        press = Copies([("put", "x"), ("copy", 1, 1), ("copy", 0, 1), ("copy", 3, 2), ("put", "y")])
        self.assertEqual(press.fixed("mno").phrases, (
            ("put", "x"), ("put", "m"), ("copy", 0, 1), ("put", "n"), ("put", "o"), ("put", "y")))
        # One copy over rings of two, which is cut at each position where a ring begins.
        press = Copies([("copy", 3, 3), ("copy", 0, 3), ("copy", 2, 3)])
        self.assertEqual(press.rings(), [[0, 3], [1, 4], [2, 5]])
        self.assertEqual(press.fixed("abc").phrases, (
            ("put", "a"), ("put", "b"), ("put", "c"), ("copy", 0, 3), ("copy", 2, 3)))
        # The copy over 0 to 8 holds the ring of 2 and 6 and that of 3 and 7, and parts on all sides.
        press = Copies([("copy", 4, 6), ("copy", 2, 2), ("put", "z"), ("copy", 8, 2)])
        self.assertEqual(press.rings(), [[2, 6], [3, 7]])
        self.assertEqual(press.fixed("pq").phrases, (
            ("copy", 4, 2), ("put", "p"), ("put", "q"), ("copy", 8, 2), ("copy", 2, 2), ("put", "z"), ("copy", 8, 2)))

    def test_against_a_plain_walk(self):
        for phrases in MANY_PHRASES:
            press = Copies(phrases)
            rings = plain_rings(phrases)
            letters = (ALPHABET * 5)[:len(rings)]
            fixed = press.fixed(letters)
            self.assertEqual(fixed.phrases, plain_fixed(phrases, letters), phrases)
            self.assertEqual(press.phrases, tuple(phrases))
            self.assertEqual(fixed.rings(), [])
            self.assertTrue(fits(fixed.text(), phrases), phrases)
            # All positions but the first ones of the rings keep their sources.
            wanted = plain_sources(phrases)
            for ring, letter in zip(rings, letters):
                wanted[ring[0]] = None
                self.assertEqual({fixed.text()[place] for place in ring}, {letter})
            self.assertEqual(fixed.sources(), wanted)

    def test_exactly_the_strings_of_fixed_fit(self):
        cases = [(phrases, "abc") for phrases in SMALL_PHRASES]
        cases += [(SOME_PHRASES[0], "ab"), (SOME_PHRASES[1], "xy"), (SOME_PHRASES[3], "lm"), (SOME_PHRASES[4], "bc")]
        for phrases, letters in cases:
            press = Copies(phrases)
            length, rings = press.length(), len(press.rings())
            fitting = [sign for sign in map("".join, product(letters, repeat=length)) if fits(sign, phrases)]
            chosen = [press.fixed("".join(signs)).text() for signs in product(letters, repeat=rings)]
            self.assertEqual(sorted(chosen), fitting, phrases)
            self.assertEqual(len(set(chosen)), len(letters) ** rings)

    def test_wrong_letters(self):
        for phrases in SMALL_PHRASES + SOME_PHRASES + LONG_PHRASES:
            press = Copies(phrases)
            many = len(plain_rings(phrases))
            wrong = ["a" * (many + 1), "a" * (many + 2), "a" * 1000]
            wrong += ["", "a" * (many - 1)] if many else ["A", " ", "z"]
            for sign in "AZ0 \n\t`{$":
                wrong += ["a" * at + sign + "a" * (many - 1 - at) for at in {0, many // 2, many - 1} if many]
            for letters in wrong:
                self.assertRaises(BadText, press.fixed, letters)
            self.assertEqual(press.phrases, tuple(phrases))

    def test_the_empty_string(self):
        press = Copies([("put", "a"), ("copy", 0, 4)])
        self.assertEqual(press.fixed("").phrases, press.phrases)
        self.assertIsNot(press.fixed(""), press)
        self.assertRaises(BadText, Copies([("copy", 0, 1)]).fixed, "")
        self.assertEqual(Copies([("copy", 0, 1)]).fixed("q").phrases, (("put", "q"),))

    def test_nothing_is_joined(self):
        phrases = [("put", "a"), ("copy", 0, 1), ("copy", 1, 1), ("copy", 3, 1), ("copy", 2, 2), ("copy", 4, 1)]
        self.assertEqual(Copies(phrases).fixed("b").phrases, tuple(phrases[:3] + [("put", "b")] + phrases[4:]))


class TidiedTest(unittest.TestCase):
    def test_examples(self):
        for phrases, wanted in (
                ([("put", "a"), ("copy", 0, 1), ("copy", 1, 2)], [("put", "a"), ("copy", 0, 3)]),
                ([("copy", 3, 1), ("copy", 4, 1), ("copy", 5, 1), ("put", "a"), ("put", "a"), ("put", "a")],
                 [("copy", 3, 3), ("put", "a"), ("put", "a"), ("put", "a")]),
                ([("copy", 0, 1), ("copy", 0, 1)], [("copy", 0, 1), ("copy", 0, 1)]),
                ([("copy", 1, 1), ("copy", 0, 1)], [("copy", 1, 1), ("copy", 0, 1)]),
                ([("copy", 0, 2), ("put", "a"), ("copy", 2, 1)], [("copy", 0, 2), ("put", "a"), ("copy", 2, 1)]),
                ([("copy", 0, 1)] + [("copy", place, 1) for place in range(1, 128)], [("copy", 0, 128)]),
                ([("copy", 0, 2), ("copy", 2, 1), ("copy", 4, 1), ("copy", 5, 1), ("put", "b")],
                 [("copy", 0, 3), ("copy", 4, 2), ("put", "b")])):
            press = Copies(phrases)
            self.assertEqual(press.tidied().phrases, tuple(wanted))
            self.assertEqual(press.phrases, tuple(phrases))

    def test_against_a_walk_over_the_sources(self):
        for phrases in MANY_PHRASES:
            press = Copies(phrases)
            tidied = press.tidied()
            covers = plain_covers(phrases)
            # A phrase begins where there is a put, or where the source is not behind the source before.
            firsts = [place for place, cover in enumerate(covers)
                      if place == 0 or isinstance(cover, str) or covers[place - 1] != cover - 1]
            self.assertEqual([start for start, _ in tidied.spans()], firsts, phrases)
            self.assertEqual(plain_covers(list(tidied.phrases)), covers, phrases)
            self.assertEqual(tidied.tidied().phrases, tidied.phrases)
            self.assertEqual(tidied.verdict(), press.verdict())

    def test_presses_with_the_same_covers_are_tidied_to_the_same_phrases(self):
        found = {}
        for phrases in SMALL_PHRASES:
            found.setdefault(tuple(plain_covers(phrases)), set()).add(Copies(phrases).tidied().phrases)
        self.assertTrue(all(len(tidied) == 1 for tidied in found.values()))
        self.assertEqual(len({phrases for tidied in found.values() for phrases in tidied}), len(found))


class IsEarlierTest(unittest.TestCase):
    def test_examples(self):
        for phrases, wanted in (
                ([("put", "a")], True), ([("copy", 0, 1)], False),
                ([("put", "a"), ("copy", 0, 127)], True), ([("put", "a"), ("copy", 1, 1)], False),
                ([("put", "a"), ("copy", 0, 2), ("copy", 2, 1)], True),
                ([("put", "a"), ("copy", 0, 2), ("copy", 3, 1)], False),
                ([("copy", 1, 1), ("put", "a")], False),
                ([("put", "a"), ("copy", 0, 1), ("copy", 3, 1), ("put", "a")], False)):
            self.assertIs(Copies(phrases).is_earlier(), wanted, phrases)

    def test_against_the_starts(self):
        answers = []
        for phrases in MANY_PHRASES:
            press = Copies(phrases)
            wanted = all(phrase[0] == "put" or phrase[1] < start
                         for phrase, (start, _) in zip(phrases, plain_spans(phrases)))
            self.assertIs(press.is_earlier(), wanted, phrases)
            answers.append(wanted)
            if wanted:
                self.assertEqual(press.rings(), [])
        self.assertGreater(answers.count(True), 50)
        self.assertGreater(answers.count(False), 50)


def plain_sum(first, second):
    length = len(plain_covers(first))
    return tuple(first) + tuple(
        phrase if phrase[0] == "put" else ("copy", phrase[1] + length, phrase[2]) for phrase in second)


class OperatorsTest(unittest.TestCase):
    def test_sums(self):
        first = Copies([("put", "a"), ("copy", 0, 2)])
        second = Copies([("copy", 1, 1), ("put", "b")])
        self.assertEqual((first + second).phrases, (("put", "a"), ("copy", 0, 2), ("copy", 4, 1), ("put", "b")))
        self.assertEqual((second + first).phrases, (("copy", 1, 1), ("put", "b"), ("put", "a"), ("copy", 2, 2)))
        self.assertEqual((first + first).text(), "aaaaaa")
        for one in SMALL_PHRASES[::11] + SOME_PHRASES:
            for other in SMALL_PHRASES[::53] + SOME_PHRASES[::7]:
                first, second = Copies(one), Copies(other)
                both = first + second
                self.assertEqual(both.phrases, plain_sum(one, other))
                self.assertEqual((first.phrases, second.phrases), (tuple(one), tuple(other)))
                length = first.length()
                self.assertEqual(both.rings(), first.rings() + [
                    [place + length for place in ring] for ring in second.rings()])
                if not both.rings():
                    self.assertEqual(both.text(), plain_text(one) + plain_text(other))

    def test_sums_of_128_and_of_129_positions(self):
        for length in (1, 2, 63, 64, 65, 126, 127):
            for first in ([("put", "a")] * length, [("copy", 0, length)], mixed_phrases(length, 3)):
                for other in (128 - length, 127 - length, 129 - length, 128):
                    if other == 0:
                        continue
                    second = mixed_phrases(other, 5)
                    if length + other > 128:
                        with self.assertRaises(TooLong):
                            Copies(first) + Copies(second)
                        with self.assertRaises(TooLong):
                            Copies(second) + Copies(first)
                    else:
                        both = Copies(first) + Copies(second)
                        self.assertEqual(both.length(), length + other)
                        self.assertEqual(both.phrases, plain_sum(first, second))

    def test_products(self):
        press = Copies([("put", "a"), ("put", "b")])
        self.assertEqual((press * 3).phrases, (("put", "a"), ("put", "b"), ("copy", 0, 4)))
        self.assertEqual((press * 2).phrases, (("put", "a"), ("put", "b"), ("copy", 0, 2)))
        self.assertEqual((press * 1).phrases, press.phrases)
        self.assertEqual((press * 64).text(), "ab" * 64)
        self.assertEqual((Copies([("put", "q")]) * 128).text(), "q" * 128)
        for phrases in MANY_PHRASES:
            press = Copies(phrases)
            length = press.length()
            for times in {1, 2, 3, 128 // length} - {0}:
                if times * length > 128:
                    continue
                more = (("copy", 0, (times - 1) * length),) if times > 1 else ()
                product = press * times
                self.assertEqual(product.phrases, tuple(phrases) + more)
                self.assertEqual(press.phrases, tuple(phrases))
                if press.rings():
                    self.assertEqual(product.rings(), press.rings())
                else:
                    self.assertEqual(product.text(), plain_text(phrases) * times)

    def test_wrong_products(self):
        for phrases in MANY_PHRASES[::5] + LONG_PHRASES:
            press = Copies(phrases)
            for times in (0, -1, -2, -128, -HUGE, -10 ** 5000):
                with self.assertRaises(BadCount):
                    press * times
            for times in (128 // press.length() + 1, 129, HUGE, 10 ** 5000):
                with self.assertRaises(TooLong):
                    press * times
            self.assertEqual(press.phrases, tuple(phrases))

    def test_reversed_presses(self):
        press = Copies([("put", "a"), ("put", "b"), ("copy", 0, 5)])
        self.assertEqual((-press).phrases, (("copy", 2, 5), ("put", "b"), ("put", "a")))
        for phrases in MANY_PHRASES:
            press = Copies(phrases)
            length = press.length()
            mirrored = -press
            self.assertEqual(mirrored.phrases, tuple(
                phrase if phrase[0] == "put" else ("copy", length - phrase[1] - phrase[2], phrase[2])
                for phrase in reversed(phrases)))
            self.assertEqual((-mirrored).phrases, press.phrases)
            self.assertEqual(press.phrases, tuple(phrases))
            self.assertEqual(mirrored.sources(), [
                None if source is None else length - 1 - source for source in reversed(press.sources())])
            if not press.rings():
                self.assertEqual(mirrored.text(), plain_text(phrases)[::-1])

    def test_the_results_are_copies(self):
        for phrases in ([("put", "a")], [("copy", 0, 1)]):
            press = Copies(phrases)
            for result in (press + press, press * 1, press * 2, -press, press.tidied()):
                self.assertIs(type(result), Copies)
                self.assertIsNot(result, press)
