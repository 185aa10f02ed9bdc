import unittest

from pressroots.copies import Copies
from pressroots.errors import NoText
from pressroots.ladders import Ladder
from pressroots.press import Press
from pressroots.rows import Row, row_of
from pressroots.rules import Rules
from tests.all_presses import KINDS, PRESSES, TEXTED, TEXTLESS
from tests.helper import all_texts, is_root
from tests.presses import (
    MANY_LADDERS, MANY_PHRASES, MANY_RULES, SMALL_LADDERS, SMALL_PHRASES, SMALL_RULES, all_rows, plain_rings,
    plain_rules_verdict)

ROWS = all_rows("ab", 6)


def held(press):
    """Return what a press was made of."""
    if isinstance(press, Copies):
        return press.phrases
    if isinstance(press, Rules):
        return press.rules
    return press.letters if isinstance(press, Row) else press.levels


class PressTest(unittest.TestCase):
    def test_there_are_presses_of_both_sorts_of_each_kind(self):
        for kind in KINDS:
            self.assertTrue(issubclass(kind, Press))
            self.assertGreater(len([press for press in TEXTED if type(press) is kind]), 20)
            # Every Ladder describes a text.
            if kind is not Ladder:
                self.assertGreater(len([press for press in TEXTLESS if type(press) is kind]), 20)

    def test_the_size_and_the_form_are_told_without_a_text(self):
        for press in TEXTLESS:
            self.assertIs(type(press.size()), int)
            self.assertGreaterEqual(press.size(), 1)
            self.assertIsInstance(held(press), (tuple, str))
            verdict = press.verdict()
            self.assertIs(type(verdict), tuple)
            self.assertIn(verdict[0], ("ring", "long", "round"))

    def test_nothing_else_is_told_without_a_text(self):
        for press in TEXTLESS:
            for ask in (press.text, press.copies, press.root, press.facts):
                self.assertRaises(NoText, ask)
            for position in (0, -1, 10 ** 30):
                self.assertRaises(NoText, press.letter, position)
            if isinstance(press, Copies):
                self.assertEqual(press.length(), len(press.sources()))
            else:
                self.assertRaises(NoText, press.length)

    def test_copies_describes_the_same_text_and_is_no_larger(self):
        for press in TEXTED:
            copies = press.copies()
            self.assertIs(type(copies), Copies)
            self.assertIsNot(copies, press)
            self.assertEqual(copies.verdict(), press.verdict())
            self.assertLessEqual(copies.size(), press.size())
            self.assertEqual(copies.copies().phrases, copies.phrases)

    def test_text_length_and_letter(self):
        for press in TEXTED:
            text = press.verdict()[1]
            self.assertEqual(press.text(), text)
            self.assertEqual(press.length(), len(text))
            for position in range(0, len(text), 1 + len(text) // 8):
                self.assertEqual(press.letter(position), text[position])

    def test_the_root_is_that_of_the_copies(self):
        for press in TEXTED:
            ends, covered = [], 0
            for phrase in press.copies():
                covered += phrase[2] if phrase[0] == "copy" else 1
                ends.append(covered - 1)
            self.assertEqual(press.root(), ends)
            self.assertEqual(press.root()[-1], press.length() - 1)

    def test_the_root_is_a_root_of_the_text(self):
        known = {}
        for press in TEXTED:
            if press.length() <= 40:
                key = (press.text(), tuple(press.root()))
                if key not in known:
                    known[key] = is_root(press.text(), press.root())
                self.assertTrue(known[key], held(press))
        self.assertGreater(len(known), 200)
        self.assertFalse(is_root("abab", [0, 2]))

    def test_the_root_of_every_small_press_is_a_root(self):
        for phrases in SMALL_PHRASES:
            if not plain_rings(phrases):
                self.assertTrue(is_root(Copies(phrases).text(), Copies(phrases).root()), phrases)
        for text in all_texts("ab", 6):
            self.assertTrue(is_root(text, row_of(text).root()), text)
        for rules in SMALL_RULES:
            if plain_rules_verdict(rules)[0] == "text":
                self.assertTrue(is_root(Rules(rules).text(), Rules(rules).root()), rules)
        for ladder in SMALL_LADDERS:
            self.assertTrue(is_root(Ladder(*ladder).text(), Ladder(*ladder).root()), ladder)

    def test_the_first_three_facts(self):
        for press in TEXTED:
            facts = press.facts()
            self.assertIs(type(facts), list)
            self.assertEqual(facts[:3], [
                ("length", press.length()), ("size", press.size()), ("root", len(press.root()))])
            self.assertEqual(Press.facts(press), facts[:3])
            self.assertEqual(len(facts), 4)
            self.assertIs(type(facts[3][1]), int)

    def test_the_presses_stay_as_they_were(self):
        for press in PRESSES[::5]:
            before = (held(press), press.verdict(), press.size())
            for ask in (press.text, press.length, press.copies, press.root, press.facts, press.size, press.verdict):
                try:
                    ask()
                except NoText:
                    pass
            try:
                press.root().append(7)
                press.facts().clear()
            except NoText:
                pass
            self.assertEqual((held(press), press.verdict(), press.size()), before)

    def test_the_form_is_held_as_it_was_given(self):
        for phrases in MANY_PHRASES[::23]:
            self.assertEqual(held(Copies(phrases)), tuple(phrases))
        for rules in MANY_RULES[::23]:
            self.assertEqual(held(Rules(rules)), tuple(rules))
        for letters in ROWS:
            self.assertEqual(held(Row(letters)), letters)
        for length, levels in MANY_LADDERS[::23]:
            self.assertEqual(held(Ladder(length, levels)), tuple(tuple(level) for level in levels))
