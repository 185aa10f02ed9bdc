"""What the document promises over the whole program: which arguments are refused, by which error, and what stays."""

import unittest

from pressroots.copies import Copies
from pressroots.desk import Desk
from pressroots.edits import cut, deleted, inserted, recoded, replaced
from pressroots.errors import BadPlaces, BadText, NoText
from pressroots.floors import floor, forced, least_size, lonely, must_keep, paper_of
from pressroots.kinds import kind_of, kinds
from pressroots.ladders import Ladder
from pressroots.led import join_roots, mirror_root, power_root, recode_root
from pressroots.makers import by_halves, can_press, fewest, fresh, greedy, pressed, quickened, rating
from pressroots.roots import address, check_table, judge_root, meeting, needed, thinned
from pressroots.rows import Row, row_of
from pressroots.search import found
from pressroots.texts import check_places, check_text
from pressroots.words import counts, distinct, occurrences
from tests.all_presses import TEXTED, TEXTLESS, some_of_each_kind
from tests.helper import HUGE, LONG_TEXTS, SOME_TEXTS, WRONG_TEXTS, wrong_places

# Each function of a text, with the other arguments right and with all of them wrong.
OF_A_TEXT = [
    (check_text, [()]), (occurrences, [("a",), ("A",)]), (counts, [()]), (kinds, [()]), (kind_of, [("a",), ("",)]),
    (lambda *items: list(distinct(*items)), [(1,), (0,), (-HUGE,), (HUGE,)]), (row_of, [()]),
    (judge_root, [([0],), ([-1],)]), (check_table, [([0], [(0, 1)]), ([-1], [(0, 0)])]),
    (meeting, [([0], "a"), ([-1], "")]), (address, [([0], "a"), ([-1], "")]), (needed, [([0],), ([-1],)]),
    (thinned, [([0],), ([-1],)]), (join_roots, [([0], "a", [0]), ([-1], "", [-1])]),
    (power_root, [([0], 1), ([-1], 0), ([0], HUGE)]), (mirror_root, [([0],), ([-1],)]),
    (recode_root, [([0], {}), ([-1], {})]), (floor, [()]), (least_size, [()]), (lonely, [()]), (must_keep, [()]),
    (forced, [(("words", ["a"]),), (("words", []),), (("stretches", [(0, 0)]),)]), (paper_of, [()]),
    (Ladder.over, [([0],), ([-1],), ([],)]), (Ladder.counted, [()]), (greedy, [()]), (fresh, [()]),
    (fewest, [([(0, 1)],), ([],), ([(0, 0)],)]), (by_halves, [()]), (pressed, [()]),
    (can_press, [(1,), (-HUGE,), (HUGE,)]),
    (lambda text, *items: join_roots("ab", [0], text, *items), [([0],), ([-1],)]),
    (lambda text: Desk().run(("put", "x", text)), [()]),
]
# Each function of a text and a list of positions, with the other arguments right and with all of them wrong.
OF_PLACES = [
    (judge_root, [()]), (check_table, [([(0, 1)],), ([(0, 0)],)]), (meeting, [("a",), ("",), ("A",)]),
    (address, [("a",), ("",), ("A",)]), (needed, [()]), (thinned, [()]),
    (join_roots, [("a", [0]), ("", [-1]), ("a", [1])]), (power_root, [(1,), (0,), (HUGE,)]), (mirror_root, [()]),
    (recode_root, [({},), ({"a": "b"},)]), (Ladder.over, [()]),
    (lambda text, places: join_roots("ab", [0], text, places), [()]),
    (lambda text, places: check_places(len(text), places), [()]),
]
# Each function of a press, with the other arguments right and with all of them wrong.
OF_A_PRESS = [
    (quickened, [()]), (rating, [()]), (found, [("a",), ("",), ("A",), ("a" * 129,)]),
    (replaced, [(0, "a"), (-1, ""), (HUGE, "A")]), (inserted, [(0, "a"), (-1, ""), (HUGE, "A")]),
    (deleted, [(0,), (-1,), (HUGE,)]), (recoded, [({},), ({"a": "b"},)]), (cut, [(0, 1), (0, 0), (-HUGE, HUGE)]),
    (lambda press: press.text(), [()]), (lambda press: press.copies(), [()]), (lambda press: press.root(), [()]),
    (lambda press: press.facts(), [()]), (lambda press, *items: press.letter(*items), [(0,), (-1,), (HUGE,)]),
]


class WholeTest(unittest.TestCase):
    def test_every_function_of_a_text_refuses_what_is_none(self):
        for index, (function, calls) in enumerate(OF_A_TEXT):
            for text in WRONG_TEXTS[::2] + [""]:
                for items in calls:
                    with self.subTest(index=index, text=text[:9], items=items):
                        self.assertRaises(BadText, function, text, *items)

    def test_every_function_of_a_list_of_positions_refuses_what_is_none(self):
        for index, (function, calls) in enumerate(OF_PLACES):
            for text in ("q", "abaab", LONG_TEXTS[7]):
                for places in wrong_places(len(text)):
                    for items in calls:
                        with self.subTest(index=index, places=places[:9], items=items):
                            given = list(places)
                            self.assertRaises(BadPlaces, function, text, places, *items)
                            self.assertEqual(places, given)

    def test_every_function_of_a_press_refuses_one_without_a_text_first(self):
        for index, (function, calls) in enumerate(OF_A_PRESS):
            for press in some_of_each_kind(TEXTLESS, 3):
                for items in calls:
                    with self.subTest(index=index, items=items):
                        self.assertRaises(NoText, function, press, *items)

    def test_the_methods_of_single_kinds_that_need_a_text(self):
        for press in TEXTLESS:
            if isinstance(press, Copies):
                self.assertRaises(NoText, press.depths)
            elif isinstance(press, Row):
                self.assertRaises(NoText, press.starts)
                for word in ("a", "", "A"):
                    self.assertRaises(NoText, press.spans, word)
            if not isinstance(press, Copies):
                self.assertRaises(NoText, press.length)

    def test_all_presses_of_a_text_agree(self):
        for text in SOME_TEXTS + LONG_TEXTS[::2]:
            presses = [greedy(text), pressed(text), by_halves(text), row_of(text), Ladder.counted(text)]
            presses += [quickened(press) for press in presses] + [press.copies() for press in presses]
            for press in presses:
                self.assertEqual(press.verdict(), ("text", text))
                self.assertGreaterEqual(press.size(), must_keep(text))
                self.assertGreaterEqual(len(press.root()), must_keep(text))
                self.assertLessEqual(len(press.root()), press.size())
                self.assertEqual(judge_root(text, press.root())[0], "root")
                kind, table = judge_root(text, press.root())
                self.assertTrue(check_table(text, press.root(), table))

    def test_no_press_is_smaller_than_its_floor(self):
        for press in TEXTED[::3]:
            self.assertGreaterEqual(press.size(), must_keep(press.text()))
            self.assertGreaterEqual(len(press.root()), must_keep(press.text()))

    def test_roots_are_led_along_with_the_presses(self):
        for press in some_of_each_kind(TEXTED, 30):
            text, root = press.text(), press.root()
            for changed in (mirror_root(text, root), recode_root(text, root, {"a": "b"})):
                self.assertEqual(judge_root(*changed)[0], "root")
            if 2 * len(text) <= 128:
                self.assertEqual(judge_root(*power_root(text, root, 2))[0], "root")
                self.assertEqual(judge_root(*join_roots(text, root, text, root))[0], "root")
                self.assertEqual(judge_root(*join_roots(text, root, "zz", [0]))[0], "root")
