"""Presses of all four kinds, for what is promised of every press."""

from pressroots.copies import Copies
from pressroots.ladders import Ladder
from pressroots.rows import Row, row_of
from pressroots.rules import Rules
from tests.helper import LONG_TEXTS, SOME_TEXTS
from tests.presses import (
    LONG_LADDERS, LONG_PHRASES, LONG_RULES, LOOSE_RULES, SMALL_LADDERS, SMALL_PHRASES, SMALL_RULES, SOME_LADDERS,
    SOME_PHRASES, TEXT_RULES, all_rows)

KINDS = (Copies, Rules, Row, Ladder)
PRESSES = (
    [Copies(phrases) for phrases in SMALL_PHRASES[::3] + SOME_PHRASES + LONG_PHRASES]
    + [Rules(rules) for rules in SMALL_RULES[::7] + TEXT_RULES + LOOSE_RULES + LONG_RULES]
    + [Row(letters) for letters in all_rows("ab", 6)] + [row_of(text) for text in SOME_TEXTS + LONG_TEXTS]
    + [Ladder(*ladder) for ladder in SMALL_LADDERS[::9] + SOME_LADDERS[::3] + LONG_LADDERS[::4]])
TEXTED = [press for press in PRESSES if press.verdict()[0] == "text"]
TEXTLESS = [press for press in PRESSES if press.verdict()[0] != "text"]


def some_of_each_kind(presses, step):
    """List every `step`th press of each kind."""
    return [press for kind in KINDS for press in [one for one in presses if type(one) is kind][::step]]
