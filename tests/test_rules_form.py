import unittest

from pressroots.errors import BadCount, BadPress, TooLong
from pressroots.press import Press
from pressroots.rules import Rules
from tests.helper import HUGE, PressCase, spots
from tests.presses import (
    LONG_RULES, LOOSE_RULES, MANY_RULES, SMALL_RULES, TEXT_RULES, WRONG_LETTERS, plain_lengths,
    plain_rules_verdict, power_chain)

GOOD_RULES = [("letter", "a"), ("pair", 4, 0), ("power", 4, 128), ("letter", "z"), ("power", 1, 2)]


def wrong_rules(many):
    """List rules that are wrong in a press of so many rules."""
    wrong = [("letter", letter) for letter in WRONG_LETTERS]
    for name in (-1, many, -many, many + 1, HUGE, -HUGE):
        wrong += [("pair", name, 0), ("pair", 0, name), ("pair", name, name), ("power", name, 2)]
    wrong += [("power", 0, times) for times in (1, 0, -1, 129, -2, -HUGE, HUGE)]
    return wrong + [("power", -1, 1), ("power", many, 129), ("pair", -1, many)]


class RulesFormTest(PressCase):
    def refuse_form(self, rules, index):
        self.refuse(BadPress, Rules, rules, index)

    def test_the_empty_list(self):
        self.refuse_form([], 0)

    def test_255_256_and_257_rules(self):
        for many in (255, 256):
            self.assertEqual(len(Rules([("letter", "a")] * many).rules), many)
        for many in (257, 258, 1000, 100000):
            self.assertRaises(TooLong, Rules, [("letter", "a")] * many)

    def test_each_fault_of_a_rule_at_each_place(self):
        for wrong in wrong_rules(1):
            self.refuse_form([wrong], 0)
        for wrong in wrong_rules(6):
            for at in range(6):
                self.refuse_form(GOOD_RULES[:at] + [wrong] + GOOD_RULES[at:], at)
        for wrong in wrong_rules(256):
            for at in spots(range(256)):
                self.refuse_form([("letter", "a")] * at + [wrong] + [("letter", "a")] * (255 - at), at)

    def test_names_and_times_that_are_right(self):
        for many in (1, 2, 5, 256):
            letters = [("letter", "a")] * (many - 1)
            for at in spots(range(many)):
                for name in spots(range(many)):
                    for rule in [("pair", name, name), ("pair", name, 0), ("pair", 0, name)] + [
                            ("power", name, times) for times in (2, 3, 127, 128)]:
                        rules = letters[:at] + [rule] + letters[at:]
                        self.assertEqual(Rules(rules).rules, tuple(rules))

    def test_the_order_of_the_checks(self):
        for wrong in wrong_rules(257):
            for at in spots(range(257)):
                rules = [("letter", "a")] * at + [wrong] + [("letter", "a")] * (256 - at)
                self.assertRaises(TooLong, Rules, rules)
        for first in wrong_rules(4):
            for second in wrong_rules(4)[::3]:
                self.refuse_form([("letter", "a"), first, ("pair", 0, 0), second], 1)
                self.refuse_form([first, ("letter", "a"), second, ("pair", 0, 0)], 0)

    def test_the_attribute(self):
        for rules in MANY_RULES:
            press = Rules(rules)
            self.assertIsInstance(press, Press)
            self.assertIs(type(press.rules), tuple)
            self.assertEqual(press.rules, tuple(rules))

    def test_a_list_that_is_changed_later_changes_no_press(self):
        for rules in SMALL_RULES[::97] + TEXT_RULES[::9] + LOOSE_RULES[::9] + LONG_RULES:
            passed = list(rules)
            press = Rules(passed)
            self.assertEqual(passed, rules)
            passed.append(("letter", "z"))
            passed[0] = ("letter", "z")
            self.assertEqual(press.rules, tuple(rules))
            self.assertEqual(press.verdict(), plain_rules_verdict(rules))
            passed.clear()
            self.assertEqual(press.rules, tuple(rules))

    def test_a_refused_list_stays_as_it_was(self):
        for rules in ([("letter", "a"), ("letter", "B")], [("pair", 0, 1)], [("letter", "a")] * 257):
            passed = list(rules)
            self.assertRaises((BadPress, TooLong), Rules, passed)
            self.assertEqual(passed, rules)


def plain_sum(first, second):
    many = len(first)
    moved = []
    for rule in second:
        moved.append({
            "letter": rule,
            "pair": ("pair", rule[1] + many, rule[-1] + many) if rule[0] == "pair" else None,
            "power": ("power", rule[1] + many, rule[-1]) if rule[0] == "power" else None}[rule[0]])
    return tuple(first) + tuple(moved) + (("pair", many - 1, many + len(second) - 1),)


class RulesOperatorsTest(unittest.TestCase):
    def test_sums(self):
        first = Rules([("letter", "a"), ("power", 0, 2)])
        second = Rules([("pair", 1, 1), ("letter", "b"), ("pair", 0, 1)])
        self.assertEqual((first + second).rules, (
            ("letter", "a"), ("power", 0, 2), ("pair", 3, 3), ("letter", "b"), ("pair", 2, 3), ("pair", 1, 4)))
        self.assertEqual((first + second).text(), "aabbb")
        self.assertEqual((second + first).text(), "bbbaa")
        for one in SMALL_RULES[::131] + TEXT_RULES[::5] + LOOSE_RULES[::13] + LONG_RULES:
            for other in SMALL_RULES[::517] + TEXT_RULES[::17] + LOOSE_RULES[::29] + LONG_RULES[1:3]:
                first, second = Rules(one), Rules(other)
                if len(one) + len(other) > 255:
                    with self.assertRaises(TooLong):
                        first + second
                    continue
                both = first + second
                self.assertEqual(both.rules, plain_sum(one, other))
                self.assertEqual((first.rules, second.rules), (tuple(one), tuple(other)))
                self.assertEqual(both.verdict(), plain_rules_verdict(list(both.rules)))
                lengths = [plain_lengths(rules)[-1] for rules in (one, other)]
                if None not in lengths and sum(lengths) <= 128:
                    self.assertEqual(both.text(), first.text() + second.text())

    def test_sums_of_256_and_of_257_rules(self):
        for many in (1, 2, 127, 128, 253, 254):
            first = [("letter", "a")] * many
            for other in (255 - many, 254 - many):
                if other:
                    both = Rules(first) + Rules([("letter", "b")] * other)
                    self.assertEqual(len(both.rules), many + other + 1)
                    self.assertEqual(both.text(), "ab")
            for other in (256 - many, 255, 256):
                with self.assertRaises(TooLong):
                    Rules(first) + Rules([("letter", "b")] * other)
                with self.assertRaises(TooLong):
                    Rules([("letter", "b")] * other) + Rules(first)

    def test_products(self):
        press = Rules([("letter", "a"), ("letter", "b"), ("pair", 0, 1)])
        self.assertEqual((press * 1).rules, press.rules)
        self.assertEqual((press * 2).rules, press.rules + (("power", 2, 2),))
        self.assertEqual((press * 128).rules, press.rules + (("power", 2, 128),))
        self.assertEqual((press * 64).text(), "ab" * 64)
        self.assertEqual((press * 65).verdict(), ("long", 130))
        for rules in SMALL_RULES[::41] + TEXT_RULES + LOOSE_RULES + LONG_RULES:
            press = Rules(rules)
            self.assertEqual((press * 1).rules, tuple(rules))
            for times in (2, 3, 127, 128):
                if len(rules) == 256:
                    with self.assertRaises(TooLong):
                        press * times
                    continue
                product = press * times
                self.assertEqual(product.rules, tuple(rules) + (("power", len(rules) - 1, times),))
                self.assertEqual(press.rules, tuple(rules))
                length = plain_lengths(rules)[-1]
                if length is not None and length * times <= 128:
                    self.assertEqual(product.text(), press.text() * times)

    def test_wrong_products(self):
        for rules in SMALL_RULES[::411] + LONG_RULES + [[("letter", "a")] * many for many in (255, 256)]:
            press = Rules(rules)
            for times in (0, -1, -2, -HUGE, -10 ** 5000):
                with self.assertRaises(BadCount):
                    press * times
            for times in (129, 130, HUGE, 10 ** 5000):
                with self.assertRaises(TooLong):
                    press * times

    def test_products_of_255_and_of_256_rules(self):
        press = Rules([("letter", "a")] * 255)
        self.assertEqual(len((press * 2).rules), 256)
        self.assertEqual(len((press * 128).rules), 256)
        press = press * 2
        self.assertEqual((press * 1).rules, press.rules)
        with self.assertRaises(TooLong):
            press * 2

    def test_reversed_rules(self):
        press = Rules([("letter", "a"), ("letter", "b"), ("pair", 0, 1), ("power", 2, 3)])
        self.assertEqual((-press).rules, (("letter", "a"), ("letter", "b"), ("pair", 1, 0), ("power", 2, 3)))
        for rules in SMALL_RULES + TEXT_RULES + LOOSE_RULES + LONG_RULES:
            press = Rules(rules)
            mirrored = -press
            self.assertEqual(mirrored.rules, tuple(
                ("pair", rule[2], rule[1]) if rule[0] == "pair" else rule for rule in rules))
            self.assertEqual((-mirrored).rules, press.rules)
            self.assertEqual(press.rules, tuple(rules))
            if press.verdict()[0] == "text":
                self.assertEqual(mirrored.text(), press.text()[::-1])

    def test_the_results_are_rules(self):
        for rules in ([("letter", "a")], [("pair", 0, 0)], power_chain("a", 9)):
            press = Rules(rules)
            for result in (press + press, press * 1, press * 2, -press):
                self.assertIs(type(result), Rules)
                self.assertIsNot(result, press)
