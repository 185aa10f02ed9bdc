import unittest

from pressroots.copies import Copies
from pressroots.errors import BadPlaces, NoText
from pressroots.rules import Rules
from tests.helper import HUGE, PressCase, spots
from tests.presses import (
    LONG_RULES, LOOSE_RULES, MANY_RULES, SMALL_RULES, TEXT_RULES, mixed_rules, pair_chain, parts, plain_height,
    plain_lengths, plain_rules_verdict, plain_used, power_chain, spell)

TEXTED = [rules for rules in MANY_RULES if plain_rules_verdict(rules)[0] == "text"]
ENDLESS = [rules for rules in MANY_RULES if plain_rules_verdict(rules)[0] == "ring"]
OUTSIDE = [-1, -2, -128, -HUGE]


def plain_copies(rules):
    """Return the phrases of `copies()`, walked name by name."""
    lengths = plain_lengths(rules)
    met, phrases = {}, []

    def covered():
        return sum(phrase[2] if phrase[0] == "copy" else 1 for phrase in phrases)

    def walk(name):
        rule = rules[name]
        if rule[0] == "letter":
            phrases.append(("put", rule[1]))
        elif name in met:
            phrases.append(("copy", met[name], lengths[name]))
        else:
            first = met[name] = covered()
            for part in parts(rule):
                walk(part)
            if rule[0] == "power":
                phrases.append(("copy", first, (rule[2] - 1) * lengths[rule[1]]))

    walk(len(rules) - 1)
    return tuple(phrases)


def plain_trail(rules, lengths, name, offset):
    rule = rules[name]
    if rule[0] == "letter":
        return [(name, offset)]
    if rule[0] == "power":
        below = (rule[1], offset % lengths[rule[1]])
    elif offset < lengths[rule[1]]:
        below = (rule[1], offset)
    else:
        below = (rule[2], offset - lengths[rule[1]])
    return [(name, offset)] + plain_trail(rules, lengths, *below)


class RulesVerdictTest(unittest.TestCase):
    def test_examples(self):
        press = Rules([("letter", "a"), ("letter", "b"), ("pair", 0, 1), ("power", 2, 3)])
        self.assertEqual(press.verdict(), ("text", "ababab"))
        self.assertEqual(press.lengths(), [1, 1, 2, 6])
        self.assertEqual((press.height(), press.used(), press.size()), (2, [0, 1, 2, 3], 4))
        self.assertEqual(press.trail(3), [(3, 3), (2, 1), (1, 0)])
        self.assertEqual(press.copies().phrases, (("put", "a"), ("put", "b"), ("copy", 0, 4)))
        self.assertEqual(press.facts(), [("length", 6), ("size", 4), ("root", 3), ("height", 2)])
        press = Rules([("letter", "a"), ("pair", 0, 2), ("pair", 1, 0)])
        self.assertEqual(press.verdict(), ("ring", [2, 1]))
        self.assertEqual(press.lengths(), [1, None, None])

    def test_rings_of_one_two_and_more_names(self):
        a = ("letter", "a")
        for rules, names in (
                ([("pair", 0, 0)], [0]),
                ([("power", 0, 2)], [0]),
                ([a, ("pair", 0, 1)], [1]),
                ([a, ("pair", 1, 0)], [1]),
                ([("power", 1, 2), ("power", 0, 2)], [1, 0]),
                ([a, ("pair", 0, 2), ("pair", 1, 0)], [2, 1]),
                ([a, ("power", 2, 2), ("power", 3, 2), ("power", 1, 2)], [3, 1, 2]),
                # The last name leads to a ring in which it does not stand.
                ([("pair", 0, 0), ("power", 0, 2)], [0]),
                ([("power", 1, 2), ("power", 0, 2), ("power", 0, 2)], [0, 1]),
                ([("power", 1, 2), ("power", 0, 2), ("pair", 1, 0), ("power", 2, 5)], [1, 0]),
                ([("power", 2, 2), ("power", 0, 2), ("power", 1, 2), a, ("pair", 3, 0)], [0, 2, 1]),
                # Left before right: the ring on the right side is not the one that is told.
                ([("pair", 0, 0), ("pair", 1, 1), ("pair", 1, 0)], [1]),
                ([("pair", 0, 0), ("pair", 1, 1), ("pair", 0, 1)], [0]),
                # A name that ends is passed over, also where it stands on the left.
                ([("pair", 0, 0), a, ("pair", 1, 0)], [0]),
                ([("pair", 0, 0), a, ("power", 1, 128), ("pair", 2, 0)], [0])):
            self.assertEqual(Rules(rules).verdict(), ("ring", names), rules)

    def test_endless_names_that_the_last_name_does_not_use(self):
        a = ("letter", "a")
        press = Rules([("pair", 0, 0), a, ("pair", 0, 1), ("power", 4, 9), ("power", 3, 9), ("pair", 1, 1)])
        self.assertEqual(press.verdict(), ("text", "aa"))
        self.assertEqual(press.lengths(), [None, 1, None, None, None, 2])
        self.assertEqual((press.height(), press.used(), press.size()), (1, [1, 5], 2))
        self.assertEqual(press.copies().phrases, (("put", "a"), ("put", "a")))

    def test_names_beside_the_last_one_may_be_very_long(self):
        rules = power_chain("a", 200, 128) + [("pair", 0, 0)]
        press = Rules(rules)
        self.assertEqual(press.verdict(), ("text", "aa"))
        self.assertEqual(press.lengths(), [128 ** power for power in range(201)] + [2])
        self.assertEqual((press.height(), press.used()), (1, [0, 201]))
        self.assertEqual(press.trail(1), [(201, 1), (0, 0)])
        self.assertEqual(press.facts(), [("length", 2), ("size", 2), ("root", 2), ("height", 1)])

    def test_lengths_of_hundreds_of_digits(self):
        press = Rules(power_chain("a", 100, 128))
        self.assertEqual(press.verdict(), ("long", 128 ** 100))
        self.assertEqual((press.height(), press.size()), (100, 101))
        press = Rules(power_chain("a", 255, 128))
        self.assertEqual(press.verdict(), ("long", 128 ** 255))
        self.assertEqual(press.height(), 255)
        # A walk through all references would take 2 ** 255 steps.
        press = Rules(pair_chain("b", 255))
        self.assertEqual(press.verdict(), ("long", 2 ** 255))
        self.assertEqual(press.lengths(), [2 ** power for power in range(256)])
        self.assertEqual((press.height(), press.size()), (255, 256))
        press = Rules([("pair", name + 1, name + 1) for name in range(254)] + [("letter", "c"), ("pair", 0, 0)])
        self.assertEqual(press.verdict(), ("long", 2 ** 255))
        self.assertEqual(press.used(), list(range(256)))

    def test_many_references_to_endless_names(self):
        rules = [("pair", 0, 0)] + [("pair", name, name) for name in range(255)]
        press = Rules(rules)
        self.assertEqual(press.verdict(), ("ring", [0]))
        self.assertEqual(press.lengths(), [None] * 256)
        press = Rules([("pair", (name + 1) % 256, (name + 1) % 256) for name in range(256)])
        self.assertEqual(press.verdict(), ("ring", [255] + list(range(255))))
        self.assertEqual(press.size(), 256)

    def test_texts_of_127_128_and_129_letters(self):
        for rules, verdict in (
                (power_chain("a", 7), ("text", "a" * 128)), (pair_chain("a", 7), ("text", "a" * 128)),
                (power_chain("a", 1, 127), ("text", "a" * 127)), (power_chain("a", 1, 128), ("text", "a" * 128)),
                (power_chain("a", 1, 128) + [("pair", 0, 1)], ("long", 129)),
                (power_chain("a", 1, 127) + [("pair", 0, 1)], ("text", "a" * 128)),
                (power_chain("a", 1, 43) + [("power", 1, 3)], ("long", 129)),
                (power_chain("a", 8), ("long", 256)), (pair_chain("a", 8), ("long", 256))):
            self.assertEqual(Rules(rules).verdict(), verdict)

    def test_against_a_plain_walk(self):
        for rules in MANY_RULES:
            press = Rules(rules)
            self.assertEqual(press.lengths(), plain_lengths(rules), rules)
            self.assertEqual(press.verdict(), plain_rules_verdict(rules), rules)
            self.assertEqual(press.used(), plain_used(rules), rules)
            self.assertEqual(press.size(), len(plain_used(rules)), rules)
            if plain_lengths(rules)[-1] is not None:
                self.assertEqual(press.height(), plain_height(rules), rules)
            self.assertEqual(press.rules, tuple(rules))

    def test_there_is_no_text_if_the_last_name_is_endless(self):
        for rules in ENDLESS:
            press = Rules(rules)
            for ask in (press.text, press.length, press.copies, press.root, press.facts, press.height):
                self.assertRaises(NoText, ask)
            for position in [0, 1, 127, 128, HUGE] + OUTSIDE:
                self.assertRaises(NoText, press.letter, position)
                self.assertRaises(NoText, press.trail, position)

    def test_there_is_no_text_if_it_is_long(self):
        for rules in LONG_RULES:
            press = Rules(rules)
            for ask in (press.text, press.length, press.copies, press.root, press.facts):
                self.assertRaises(NoText, ask)
            for position in [0, 1, 127, 128, HUGE] + OUTSIDE:
                self.assertRaises(NoText, press.letter, position)
            self.assertEqual(press.height(), plain_height(rules))


class RulesWalkTest(unittest.TestCase):
    def test_texts_letters_and_trails_against_a_plain_walk(self):
        for rules in TEXTED:
            press = Rules(rules)
            text = spell(rules, len(rules) - 1)
            lengths = plain_lengths(rules)
            self.assertEqual((press.text(), press.length()), (text, len(text)))
            for position in range(len(text)) if len(text) < 30 else spots(text):
                self.assertEqual(press.letter(position), text[position])
                trail = press.trail(position)
                self.assertEqual(trail, plain_trail(rules, lengths, len(rules) - 1, position), rules)
                self.assertEqual(rules[trail[-1][0]], ("letter", text[position]))
                self.assertLessEqual(len(trail), press.height() + 1)
            for position in [len(text), len(text) + 1, HUGE] + OUTSIDE:
                self.assertRaises(BadPlaces, press.letter, position)
                self.assertRaises(BadPlaces, press.trail, position)

    def test_trails_of_long_texts(self):
        for rules in LONG_RULES + [mixed_rules(100, seed) for seed in range(20)]:
            press = Rules(rules)
            lengths = plain_lengths(rules)
            length = lengths[-1]
            for position in [0, 1, 2, 127, 128, length // 3, length // 2, length - 2, length - 1]:
                if 0 <= position < length:
                    trail = press.trail(position)
                    self.assertEqual(trail, plain_trail(rules, lengths, len(rules) - 1, position))
                    self.assertLessEqual(len(trail), press.height() + 1)
            for position in [length, length + 1, length * 128, length * HUGE] + OUTSIDE:
                self.assertRaises(BadPlaces, press.trail, position)
        trail = Rules(power_chain("a", 100, 128)).trail(128 ** 100 - 1)
        self.assertEqual(trail, [(name, 128 ** name - 1) for name in range(100, -1, -1)])

    def test_a_trail_of_a_letter(self):
        press = Rules([("letter", "q")])
        self.assertEqual(press.trail(0), [(0, 0)])
        self.assertEqual(press.facts(), [("length", 1), ("size", 1), ("root", 1), ("height", 0)])
        self.assertRaises(BadPlaces, press.trail, 1)

    def test_copies_examples(self):
        for rules, phrases in (
                # A letter gives a put whenever it is met.
                ([("letter", "a"), ("pair", 0, 0)], [("put", "a"), ("put", "a")]),
                ([("letter", "a"), ("pair", 0, 0), ("pair", 1, 0)], [("put", "a")] * 3),
                # A pair that is met again, on the other side or further down.
                ([("letter", "a"), ("letter", "b"), ("pair", 0, 1), ("pair", 2, 2)],
                 [("put", "a"), ("put", "b"), ("copy", 0, 2)]),
                ([("letter", "a"), ("letter", "b"), ("pair", 0, 1), ("pair", 1, 2), ("pair", 3, 2), ("pair", 4, 3)],
                 [("put", "b"), ("put", "a"), ("put", "b"), ("copy", 1, 2), ("copy", 0, 3)]),
                # A power at a position above 0, its part a pair that is met again.
                ([("letter", "a"), ("letter", "b"), ("pair", 0, 1), ("power", 2, 4), ("pair", 1, 3), ("pair", 4, 2)],
                 [("put", "b"), ("put", "a"), ("put", "b"), ("copy", 1, 6), ("copy", 1, 2)]),
                # A power that is met again.
                ([("letter", "a"), ("power", 0, 5), ("letter", "b"), ("pair", 2, 1), ("pair", 3, 1)],
                 [("put", "b"), ("put", "a"), ("copy", 1, 4), ("copy", 1, 5)]),
                # A power of a power.
                (power_chain("a", 3), [("put", "a"), ("copy", 0, 1), ("copy", 0, 2), ("copy", 0, 4)]),
                (power_chain("q", 1, 128), [("put", "q"), ("copy", 0, 127)])):
            self.assertEqual(Rules(rules).copies().phrases, tuple(phrases), rules)

    def test_copies_against_a_plain_walk(self):
        for rules in TEXTED:
            press = Rules(rules)
            copies = press.copies()
            self.assertIs(type(copies), Copies)
            self.assertEqual(copies.phrases, plain_copies(rules), rules)
            self.assertEqual(copies.text(), press.text())
            self.assertTrue(copies.is_earlier())
            opened = [name for name in plain_used(rules) if rules[name][0] != "letter"]
            self.assertEqual(copies.size(), len(opened) + 1, rules)
            self.assertLessEqual(copies.size(), press.size())

    def test_facts(self):
        for rules in TEXTED[::3]:
            press = Rules(rules)
            self.assertEqual(press.facts(), [
                ("length", len(spell(rules, len(rules) - 1))), ("size", len(plain_used(rules))),
                ("root", len(plain_copies(rules))), ("height", plain_height(rules))])

    def test_the_presses_of_these_tests_are_of_all_sorts(self):
        for chosen in (SMALL_RULES, LOOSE_RULES):
            self.assertGreater(len([rules for rules in chosen if rules in TEXTED]), 99)
            self.assertGreater(len([rules for rules in chosen if rules in ENDLESS]), 99)
        self.assertGreater(len(TEXT_RULES), 99)
        long = [rules for seed in range(20) for rules in [mixed_rules(100, seed)] if plain_lengths(rules)[-1] > 128]
        self.assertGreater(len(long), 5)


class RulesAnswersTest(PressCase):
    def test_changed_answers_change_no_later_ones(self):
        for rules in MANY_RULES[::37] + LONG_RULES:
            press = Rules(rules)
            asks = [press.lengths, press.used]
            if rules not in ENDLESS:
                asks.append(lambda: press.trail(0))
            if rules in TEXTED:
                asks += [press.root, press.facts]
            for ask in asks:
                self.see_new_lists(ask)
            self.assertEqual(press.rules, tuple(rules))

    def test_a_changed_ring_changes_no_later_one(self):
        for rules in ENDLESS[::37]:
            press = Rules(rules)
            names = press.verdict()[1]
            self.assertIs(type(names), list)
            names.append(7)
            names[0] = 7
            self.assertEqual(press.verdict(), plain_rules_verdict(rules))

    def test_the_kinds_of_the_answers(self):
        press = Rules([("letter", "a"), ("power", 0, 3)])
        self.assertIs(type(press.verdict()), tuple)
        for item in press.trail(2) + press.facts():
            self.assertIs(type(item), tuple)
        self.assertIs(type(Rules(power_chain("a", 9)).verdict()), tuple)
