import unittest

from pressroots.copies import Copies
from pressroots.errors import BadPlaces, NoText
from tests.helper import HUGE, PressCase, spots
from tests.presses import (
    LONG_PHRASES, MANY_PHRASES, SOME_PHRASES, plain_chain, plain_covers, plain_rings, plain_sources,
    plain_spans, plain_text)

RINGLESS = [phrases for phrases in MANY_PHRASES if not plain_rings(phrases)]
RINGED = [phrases for phrases in MANY_PHRASES if plain_rings(phrases)]
OUTSIDE = [-1, -2, -128, -HUGE, HUGE, 128, 129]


class CopiesWalkTest(unittest.TestCase):
    def test_the_presses_of_these_tests_are_of_both_sorts(self):
        for phrases in (LONG_PHRASES, SOME_PHRASES):
            ringed = [one for one in phrases if plain_rings(one)]
            self.assertGreater(len(ringed), 5)
            self.assertGreater(len(phrases) - len(ringed), 5)
        self.assertGreater(max(len(plain_rings(phrases)) for phrases in SOME_PHRASES), 1)

    def test_examples(self):
        press = Copies([("put", "a"), ("put", "b"), ("copy", 0, 5)])
        self.assertEqual(press.verdict(), ("text", "abababa"))
        self.assertEqual(press.text(), "abababa")
        self.assertEqual(press.depths(), [0, 0, 1, 1, 2, 2, 3])
        self.assertEqual(press.sources(), [None, None, 0, 1, 2, 3, 4])
        self.assertEqual(press.chain(6), [6, 4, 2, 0])
        self.assertEqual(press.chain(1), [1])
        self.assertEqual(press.spans(), [(0, 1), (1, 2), (2, 7)])
        self.assertEqual(press.ends(), [0, 1, 6])
        self.assertEqual(press.rings(), [])
        self.assertEqual((press.length(), press.size()), (7, 3))
        self.assertEqual(press.facts(), [("length", 7), ("size", 3), ("root", 3), ("depth", 3)])
        press = Copies([("put", "a"), ("copy", 2, 1), ("copy", 1, 1)])
        self.assertEqual(press.verdict(), ("ring", [1, 2]))
        self.assertEqual(press.chain(0), [0])
        self.assertEqual((press.length(), press.size()), (3, 3))

    def test_a_position_that_is_its_own_source(self):
        press = Copies([("copy", 0, 1)])
        self.assertEqual(press.verdict(), ("ring", [0]))
        self.assertEqual(press.sources(), [0])
        press = Copies([("put", "a"), ("copy", 1, 2), ("put", "b")])
        self.assertEqual(press.rings(), [[1], [2]])
        self.assertEqual(press.verdict(), ("ring", [1]))
        self.assertEqual(Copies([("copy", 0, 128)]).rings(), [[place] for place in range(128)])

    def test_several_rings(self):
        # 5 reads from the ring of 3 and 4, and 0 from 5; 1 and 2 are another ring, 7 its own source.
        press = Copies([("copy", 5, 1), ("copy", 2, 1), ("copy", 1, 1), ("copy", 4, 1), ("copy", 3, 2), ("put", "x"),
                        ("copy", 7, 1)])
        self.assertEqual(press.sources(), [5, 2, 1, 4, 3, 4, None, 7])
        self.assertEqual(press.rings(), [[1, 2], [3, 4], [7]])
        self.assertEqual(press.verdict(), ("ring", [1, 2]))
        self.assertEqual(press.chain(6), [6])
        # A ring is listed in the order of the sources, from its least position on.
        press = Copies([("put", "a"), ("copy", 3, 1), ("copy", 1, 1), ("copy", 4, 1), ("copy", 2, 1)])
        self.assertEqual(press.rings(), [[1, 3, 4, 2]])
        press = Copies([("copy", 1, 127), ("copy", 0, 1)])
        self.assertEqual(press.rings(), [list(range(128))])
        press = Copies([("copy", 127, 1), ("copy", 0, 127)])
        self.assertEqual(press.rings(), [[0] + list(range(127, 0, -1))])
        press = Copies([("copy", 64, 64), ("copy", 0, 64)])
        self.assertEqual(press.rings(), [[place, place + 64] for place in range(64)])

    def test_copies_from_before_from_behind_and_overlapping(self):
        for phrases, text in (
                ([("put", "a"), ("put", "b"), ("copy", 0, 2)], "abab"),
                ([("copy", 2, 2), ("put", "a"), ("put", "b")], "abab"),
                ([("copy", 1, 3), ("put", "a")], "aaaa"),
                ([("copy", 2, 4), ("put", "a"), ("put", "b")], "ababab"),
                ([("put", "a"), ("copy", 0, 3)], "aaaa"),
                ([("put", "a"), ("copy", 3, 1), ("copy", 0, 1), ("put", "b")], "abab"),
                ([("copy", 3, 1), ("put", "b"), ("copy", 0, 2), ("put", "c")], "bbbbc"),
                ([("copy", 2, 2), ("copy", 4, 2), ("put", "x"), ("put", "y")], "xyxyxy")):
            self.assertEqual(Copies(phrases).verdict(), ("text", text))

    def test_spans_ends_and_sources_against_a_plain_walk(self):
        for phrases in MANY_PHRASES:
            press = Copies(phrases)
            spans = plain_spans(phrases)
            self.assertEqual(press.spans(), spans, phrases)
            self.assertEqual(press.ends(), [stop - 1 for _, stop in spans], phrases)
            self.assertEqual(press.sources(), plain_sources(phrases), phrases)
            self.assertEqual(press.length(), len(plain_covers(phrases)), phrases)
            self.assertEqual(press.size(), len(phrases), phrases)

    def test_rings_and_verdicts_against_a_plain_walk(self):
        for phrases in MANY_PHRASES:
            press = Copies(phrases)
            rings = plain_rings(phrases)
            self.assertEqual(press.rings(), rings, phrases)
            if rings:
                self.assertEqual(press.verdict(), ("ring", rings[0]), phrases)
            else:
                self.assertEqual(press.verdict(), ("text", plain_text(phrases)), phrases)

    def test_chains_against_a_plain_walk(self):
        for phrases in MANY_PHRASES:
            press = Copies(phrases)
            for position in range(press.length()):
                chain = plain_chain(phrases, position)
                if chain is None:
                    self.assertRaises(NoText, press.chain, position)
                else:
                    self.assertEqual(press.chain(position), chain, phrases)

    def test_texts_letters_depths_and_facts_against_a_plain_walk(self):
        for phrases in RINGLESS:
            press = Copies(phrases)
            text = plain_text(phrases)
            depths = [len(plain_chain(phrases, position)) - 1 for position in range(len(text))]
            self.assertEqual(press.text(), text)
            self.assertEqual(press.depths(), depths, phrases)
            for position in range(len(text)) if len(text) < 128 else spots(text):
                self.assertEqual(press.letter(position), text[position])
            self.assertEqual(press.copies().phrases, press.phrases)
            self.assertEqual(press.root(), press.ends())
            self.assertEqual(press.facts(), [
                ("length", len(text)), ("size", len(phrases)), ("root", len(phrases)), ("depth", max(depths))])

    def test_the_deepest_chains(self):
        press = Copies([("put", "a"), ("copy", 0, 127)])
        self.assertEqual(press.depths(), list(range(128)))
        self.assertEqual(press.chain(127), list(range(127, -1, -1)))
        self.assertEqual(press.facts()[3], ("depth", 127))
        self.assertEqual((-press).depths(), list(range(127, -1, -1)))
        self.assertEqual((-press).chain(0), list(range(128)))

    def test_there_is_no_text_if_there_is_a_ring(self):
        for phrases in RINGED:
            press = Copies(phrases)
            for ask in (press.text, press.copies, press.root, press.facts, press.depths):
                self.assertRaises(NoText, ask)
            for position in [0, press.length() - 1, press.length()] + OUTSIDE:
                self.assertRaises(NoText, press.letter, position)

    def test_positions_outside_the_text(self):
        for phrases in MANY_PHRASES:
            press = Copies(phrases)
            for position in OUTSIDE + [press.length(), press.length() + 1]:
                self.assertRaises(BadPlaces, press.chain, position)
        for phrases in RINGLESS:
            press = Copies(phrases)
            for position in OUTSIDE + [press.length(), press.length() + 1]:
                self.assertRaises(BadPlaces, press.letter, position)

    def test_a_chain_that_ends_beside_a_ring(self):
        press = Copies([("copy", 1, 1), ("put", "a"), ("copy", 3, 1), ("copy", 2, 1), ("copy", 0, 1)])
        self.assertEqual(press.chain(4), [4, 0, 1])
        self.assertRaises(NoText, press.chain, 2)
        # A chain that leads to a ring without being in it does not end, either.
        press = Copies([("copy", 1, 1), ("copy", 2, 1), ("copy", 2, 1), ("put", "a")])
        for position in range(3):
            self.assertRaises(NoText, press.chain, position)
        self.assertEqual(press.chain(3), [3])


class CopiesAnswersTest(PressCase):
    def test_changed_answers_change_no_later_ones(self):
        for phrases in MANY_PHRASES[::9] + LONG_PHRASES:
            press = Copies(phrases)
            asks = [press.spans, press.ends, press.sources, press.rings]
            if not press.rings():
                asks += [press.root, press.facts, press.depths, lambda: press.chain(0)]
            for ask in asks:
                self.see_new_lists(ask)
            self.assertEqual(press.phrases, tuple(phrases))

    def test_a_changed_ring_changes_no_later_one(self):
        for phrases in RINGED[::9]:
            press = Copies(phrases)
            wanted = plain_rings(phrases)
            press.verdict()[1].append(7)
            press.verdict()[1][0] = 7
            self.assertEqual(press.verdict(), ("ring", wanted[0]))
            for ring in press.rings():
                ring.append(7)
                ring[0] = 7
            self.assertEqual(press.rings(), wanted)

    def test_the_kinds_of_the_answers(self):
        press = Copies([("put", "a"), ("put", "b"), ("copy", 0, 5)])
        self.assertIs(type(press.verdict()), tuple)
        for span in press.spans():
            self.assertIs(type(span), tuple)
        for fact in press.facts():
            self.assertIs(type(fact), tuple)
        self.assertIs(type(press.copies()), Copies)
        ring = Copies([("copy", 0, 1)])
        self.assertIs(type(ring.verdict()), tuple)
        self.assertIs(type(ring.verdict()[1]), list)
        for one in ring.rings():
            self.assertIs(type(one), list)
