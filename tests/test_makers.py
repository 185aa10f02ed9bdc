import unittest

from pressroots.copies import Copies
from pressroots.errors import BadPaper, BadText, NoText
from pressroots.floors import forced, least_size, must_keep, paper_of
from pressroots.ladders import Ladder
from pressroots.makers import by_halves, can_press, fewest, fresh, greedy, pressed, quickened, rating
from pressroots.rows import row_of
from pressroots.rules import Rules
from tests.all_presses import TEXTED, TEXTLESS
from tests.helper import (
    HUGE, LETTERS, LONG_TEXTS, SOME_TEXTS, WRONG_TEXTS, PressCase, all_texts, fibonacci, mixed, plain_meeting, spots)
from tests.presses import (
    LONG_PHRASES, SMALL_PHRASES, SOME_PHRASES, TEXT_RULES, plain_height, plain_rings, plain_used, spell)

SMALL_TEXTS = all_texts("ab", 7) + all_texts("abc", 4)
TEXTS = SMALL_TEXTS + SOME_TEXTS + LONG_TEXTS + [
    mixed("abcdef"[:1 + seed % 5], 5 + 4 * seed, seed) for seed in range(30)]

def plain_greedy(text):
    """List the phrases that take, letter by letter, the longest word that starts earlier, too."""
    phrases, place = [], 0
    while place < len(text):
        best = None
        for stop in range(place + 1, len(text) + 1):
            starts = [start for start in range(place) if text[start:start + stop - place] == text[place:stop]]
            if starts:
                best = ("copy", starts[0], stop - place)
        phrases.append(best or ("put", text[place]))
        place += best[2] if best else 1
    return phrases


def least_division(text):
    """Return the least number of letters and of pieces that start earlier, too, into which a text is divided."""
    best = [0] + [None] * len(text)
    for stop in range(1, len(text) + 1):
        ways = [best[stop - 1]]
        for start in range(stop):
            if any(text[other:other + stop - start] == text[start:stop] for other in range(start)):
                ways.append(best[start])
        best[stop] = 1 + min(ways)
    return best[-1]


def plain_halves(text):
    """Return the rules that take neighbours in twos, found with the texts of the names."""
    rules = [("letter", letter) for letter in dict.fromkeys(text)]
    row = [rules.index(("letter", letter)) for letter in text]
    while len(row) > 1:
        new = []
        while len(row) > 1:
            pair = ("pair", row.pop(0), row.pop(0))
            if pair not in rules:
                rules.append(pair)
            new.append(rules.index(pair))
        row = new + row
    return rules


class GreedyTest(unittest.TestCase):
    def test_examples(self):
        self.assertEqual(greedy("abababa").phrases, (("put", "a"), ("put", "b"), ("copy", 0, 5)))
        self.assertEqual(greedy("q").phrases, (("put", "q"),))
        self.assertEqual(greedy("aaaa").phrases, (("put", "a"), ("copy", 0, 3)))
        self.assertEqual(greedy("abcab").phrases, (("put", "a"), ("put", "b"), ("put", "c"), ("copy", 0, 2)))
        # The longest word, which is not the first one that occurs before, and the least of its starts.
        self.assertEqual(str(greedy("abacabab")), "a b 0+1 c 0+3 1+1")
        self.assertEqual(str(greedy("ababcab")), "a b 0+2 c 0+2")

    def test_against_a_plain_search(self):
        for text in TEXTS:
            press = greedy(text)
            self.assertIs(type(press), Copies)
            self.assertEqual(list(press), plain_greedy(text), text)

    def test_it_describes_the_text_and_is_earlier(self):
        for text in TEXTS:
            self.assertEqual(greedy(text).text(), text)
            self.assertTrue(greedy(text).is_earlier())

    def test_no_division_has_fewer_phrases(self):
        for text in SMALL_TEXTS + SOME_TEXTS + [fibonacci(60), mixed("ab", 70, 1)]:
            self.assertEqual(greedy(text).size(), least_division(text), text)

    def test_no_earlier_press_has_fewer_phrases(self):
        for phrases in SMALL_PHRASES + SOME_PHRASES + LONG_PHRASES:
            if not plain_rings(phrases) and Copies(phrases).is_earlier():
                self.assertLessEqual(greedy(Copies(phrases).text()).size(), len(phrases))

    def test_the_bounds(self):
        for text in TEXTS:
            least, height = least_size(text), len(Ladder.counted(text).levels) - 1
            self.assertLessEqual(greedy(text).size(), least * (4 * height + 1) + 4 * height)
        for rules in TEXT_RULES:
            compound = [name for name in plain_used(rules) if rules[name][0] != "letter"]
            self.assertLessEqual(greedy(spell(rules, len(rules) - 1)).size(), len(compound) + 1)

    def test_wrong_texts(self):
        for text in WRONG_TEXTS:
            for ask in (greedy, fresh, by_halves, pressed):
                with self.subTest(text, ask=ask.__name__):
                    self.assertRaises(BadText, ask, text)


class FreshTest(PressCase):
    def refuse_paper(self, text, stretches, index):
        given = list(stretches)
        self.refuse(BadPaper, lambda items: fewest(text, items), stretches, index)
        self.assertEqual(stretches, given)

    def test_examples(self):
        self.assertEqual(fresh("abababa"), [(0, 2), (1, 3), (2, 7)])
        self.assertEqual(fresh("q"), [(0, 1)])
        self.assertEqual(fresh("ab"), [(0, 2), (1, 2)])
        self.assertEqual(fewest("abababa", [(0, 2), (1, 3), (2, 7)]), 3)
        self.assertEqual(fewest("q", [(0, 1)]), 1)

    def test_a_stretch_for_each_phrase(self):
        for text in TEXTS:
            wanted, place = [], 0
            for phrase in plain_greedy(text):
                stop = place + (phrase[2] if phrase[0] == "copy" else 1)
                wanted.append((place, stop if stop == len(text) else stop + 1))
                place = stop
            self.assertEqual(fresh(text), wanted)
            self.assertIs(type(fresh(text)), list)

    def test_the_paper_is_let(self):
        for text in TEXTS:
            self.assertEqual(fewest(text, fresh(text)), greedy(text).size(), text)

    def test_no_paper_shows_more_than_there_is(self):
        for text in all_texts("ab", 4):
            size = len(text)
            pairs = [(start, stop) for start in range(size) for stop in range(start + 1, size + 1)]
            papers = [[pair] for pair in pairs]
            for _ in range(3):
                papers = papers + [paper + [pair] for paper in papers for pair in pairs if pair > paper[-1]]
            for paper in papers[::5]:
                try:
                    self.assertLessEqual(fewest(text, paper), least_division(text), (text, paper))
                except BadPaper:
                    pass

    def test_the_empty_list(self):
        for text in ("q", "abababa", "ab" * 64):
            self.refuse_paper(text, [], 0)

    def test_stretches_that_do_not_lie_in_the_text(self):
        for text in ("abababa", LETTERS, fibonacci(128), "a" * 128):
            size = len(text)
            right = fresh(text)
            wrong = [(-1, size), (-1, 2), (0, size + 1), (size, size), (size, size + 1), (size - 1, size + 1), (2, 1),
                     (1, 1), (0, 0), (HUGE, HUGE + 2), (-HUGE, 2), (0, HUGE), (-HUGE, HUGE), (-HUGE, -HUGE + 2),
                     (-2, -1), (-size, 2 - size), (-1, 0), (HUGE, 0), (size, 0)]
            for pair in wrong:
                self.refuse_paper(text, [pair], 0)
                for at in spots(right):
                    self.refuse_paper(text, right[:at] + [pair] + right[at + 1:], at)
                    self.refuse_paper(text, right[:at] + [pair, pair] + right[at:], at)

    def test_a_gap_before_an_item_is_let_but_no_larger_overlap_than_one_position(self):
        self.assertEqual(fewest("abcdef", [(0, 2), (1, 3), (2, 4), (3, 5), (4, 6), (5, 6)]), 6)
        self.assertEqual(fewest("abcdef", [(0, 2), (2, 4), (4, 6)]), 3)
        self.assertEqual(fewest("abcdef", [(0, 2), (4, 6)]), 2)
        # The first item may start anywhere, and the last one may have one position.
        self.assertEqual(fewest("abcdef", [(3, 5), (5, 6)]), 2)
        self.assertEqual(fewest("abcdef", [(3, 5), (4, 6)]), 2)
        self.assertEqual(fewest("abcdef", [(5, 6)]), 1)
        for at, wrong in ((1, [(0, 3), (1, 4), (3, 6)]), (2, [(0, 3), (2, 4), (2, 6)]), (1, [(0, 3), (0, 6)]),
                          (1, [(2, 4), (0, 2), (2, 6)]), (1, [(0, 3), (1, 6)]), (1, [(0, 2), (0, 2), (2, 6)])):
            self.refuse_paper("abcdef", wrong, at)

    def test_items_of_one_position(self):
        # Only the last item may have one position, also if its letter does not occur before.
        for at in range(5):
            right = [(0, 2), (1, 3), (2, 4), (3, 5), (4, 6)]
            self.assertEqual(fewest("abcdef", right + [(5, 6)]), 6)
            self.refuse_paper("abcdef", right[:at] + [(right[at][0], right[at][0] + 1)] + right[at + 1:] + [(5, 6)], at)
        self.refuse_paper("ab", [(0, 1), (1, 2)], 0)

    def test_words_that_occur_before(self):
        text = "abcabcd"
        self.assertEqual(fewest(text, [(0, 2), (1, 3), (2, 4), (3, 7), (6, 7)]), 5)
        self.refuse_paper(text, [(0, 2), (1, 3), (2, 4), (3, 5), (4, 7), (6, 7)], 3)
        self.refuse_paper(text, [(0, 2), (1, 3), (2, 4), (3, 6), (5, 7), (6, 7)], 3)
        self.refuse_paper(text, [(3, 5), (4, 7)], 0)
        self.refuse_paper("aaaa", [(1, 3), (2, 4)], 0)
        # The word of the last item may occur before.
        self.assertEqual(fewest("abcabc", [(0, 2), (1, 3), (2, 4), (3, 6)]), 4)
        self.assertEqual(fewest("aaaa", [(3, 4)]), 1)

    def test_the_last_item_reaches_the_end(self):
        for text in ("abababa", LETTERS, fibonacci(128)):
            right = fresh(text)
            start, stop = right[-1]
            last = len(right) - 1
            for other in range(start + 1, stop):
                self.refuse_paper(text, right[:-1] + [(start, other)], last)
            if last and right[-2][1] < stop:
                self.refuse_paper(text, right[:-1], last - 1)
        self.refuse_paper("abc", [(0, 2)], 0)
        self.refuse_paper("abc", [(0, 2), (1, 2)], 1)

    def test_the_first_wrong_item_counts(self):
        self.refuse_paper("abcdef", [(0, 2), (1, 2), (9, 9), (0, 1)], 1)
        self.refuse_paper("abcdef", [(0, 2), (1, 3), (9, 9), (0, 1)], 2)
        self.refuse_paper("abcdef", [(0, 1), (9, 9), (0, 1)], 0)

    def test_wrong_texts_come_first(self):
        for text in WRONG_TEXTS:
            for paper in ([], [(0, 1)], [(HUGE, 0)]):
                self.assertRaises(BadText, fewest, text, paper)

    def test_a_changed_paper_changes_no_later_one(self):
        self.see_new_lists(lambda: fresh("abababa"))


class HalvesTest(unittest.TestCase):
    def test_examples(self):
        self.assertEqual(by_halves("ababa").rules, (
            ("letter", "a"), ("letter", "b"), ("pair", 0, 1), ("pair", 2, 2), ("pair", 3, 0)))
        self.assertEqual(by_halves("q").rules, (("letter", "q"),))
        self.assertEqual(by_halves("ba").rules, (("letter", "b"), ("letter", "a"), ("pair", 0, 1)))
        self.assertEqual(by_halves("aa").rules, (("letter", "a"), ("pair", 0, 0)))
        # A letter is left over at the end of the first round.
        self.assertEqual(by_halves("aab").rules, (
            ("letter", "a"), ("letter", "b"), ("pair", 0, 0), ("pair", 2, 1)))
        # The pairs of one round stand behind those of the round before.
        self.assertEqual(by_halves("abcbabcb").rules, (
            ("letter", "a"), ("letter", "b"), ("letter", "c"), ("pair", 0, 1), ("pair", 2, 1), ("pair", 3, 4),
            ("pair", 5, 5)))
        self.assertEqual(by_halves("a" * 128).rules, (("letter", "a"),) + tuple(
            ("pair", name, name) for name in range(7)))

    def test_against_a_plain_search(self):
        for text in TEXTS + [text[:127] for text in LONG_TEXTS]:
            press = by_halves(text)
            self.assertIs(type(press), Rules)
            self.assertEqual(list(press.rules), plain_halves(text), text)

    def test_what_it_describes(self):
        for text in TEXTS + [text[:127] for text in LONG_TEXTS]:
            press = by_halves(text)
            rules = list(press.rules)
            self.assertEqual(press.text(), text)
            self.assertEqual(press.used(), list(range(len(rules))))
            height = press.height()
            self.assertEqual(height, plain_height(rules))
            self.assertTrue(2 ** height >= len(text) and (height == 0 or 2 ** (height - 1) < len(text)))
            texts = [spell(rules, name) for name in range(len(rules))]
            self.assertEqual(len(set(texts)), len(texts))


class PressedTest(unittest.TestCase):
    def test_the_one_of_fewer_phrases(self):
        kinds = {"fewer": 0, "equal": 0, "more": 0}
        for text in TEXTS:
            press = pressed(text)
            first, second = greedy(text), row_of(text).copies()
            self.assertIs(type(press), Copies)
            if second.size() < first.size():
                kinds["more"] += 1
                self.assertEqual(press.phrases, second.phrases, text)
            else:
                kinds["equal" if first.size() == second.size() and first.phrases != second.phrases else "fewer"] += 1
                self.assertEqual(press.phrases, first.phrases, text)
            self.assertEqual(press.text(), text)
        # There are texts of each sort, also such as have two unlike presses of one size.
        self.assertGreater(min(kinds.values()), 2, kinds)

    def test_examples(self):
        self.assertEqual(pressed("banana").phrases, greedy("banana").phrases)
        self.assertEqual(pressed("q").phrases, (("put", "q"),))


class QuickenedTest(unittest.TestCase):
    def test_the_ladder_over_the_root(self):
        for press in TEXTED:
            ladder = quickened(press)
            self.assertIs(type(ladder), Ladder)
            self.assertEqual(ladder.levels, Ladder.over(press.text(), press.root()).levels)
            self.assertEqual(ladder.text(), press.text())

    def test_its_starts_meet_the_root(self):
        for press in TEXTED[::7]:
            text, root = press.text(), press.root()
            ladder = quickened(press)
            for level, pairs in enumerate(ladder.levels):
                reach = 2 ** (len(ladder.levels) - 1 - level)
                for block, entry in pairs:
                    if isinstance(entry, int):
                        word = text[block * reach:(block + 1) * reach]
                        self.assertEqual(entry, plain_meeting(text, root, word))

    def test_rating(self):
        for press in TEXTED:
            told = rating(press)
            self.assertEqual(told, (press.size(), must_keep(press.text())))
            self.assertEqual([type(told)] + [type(item) for item in told], [tuple, int, int])
            self.assertGreaterEqual(told[0], told[1])

    def test_presses_without_a_text(self):
        self.assertGreater(len(TEXTLESS), 50)
        for press in TEXTLESS:
            self.assertRaises(NoText, quickened, press)
            self.assertRaises(NoText, rating, press)


class CanPressTest(unittest.TestCase):
    def test_examples(self):
        self.assertEqual(can_press("banana", 2), ("no", ("words", ["b", "a", "n"])))
        self.assertEqual(can_press("banana", 3), ("open", 3, 4))
        self.assertEqual(can_press("banana", 4), ("yes", list(pressed("banana"))))
        self.assertEqual(can_press("q", 1), ("yes", [("put", "q")]))
        self.assertEqual(can_press("q", 0), ("no", ("words", ["q"])))

    def test_each_size(self):
        for text in TEXTS[::5] + LONG_TEXTS:
            best, least = pressed(text).size(), must_keep(text)
            self.assertLessEqual(least, best)
            sizes = {-1, 0, 1, -HUGE, HUGE} | {near + step for near in (best, least) for step in (-1, 0, 1)}
            for size in sorted(sizes):
                told = can_press(text, size)
                self.assertIs(type(told), tuple)
                if size >= best:
                    self.assertEqual(told, ("yes", list(pressed(text))))
                    self.assertIs(type(told[1]), list)
                elif size < least:
                    self.assertEqual(told, ("no", paper_of(text)))
                    self.assertGreater(forced(text, told[1]), size)
                else:
                    self.assertEqual(told, ("open", least, best))

    def test_changed_answers_change_no_later_ones(self):
        for size, item in ((4, lambda told: told[1]), (2, lambda told: told[1][1])):
            wanted = list(item(can_press("banana", size)))
            item(can_press("banana", size)).clear()
            self.assertEqual(item(can_press("banana", size)), wanted)

    def test_wrong_texts(self):
        for text in WRONG_TEXTS:
            for size in (-HUGE, 0, 1, HUGE):
                self.assertRaises(BadText, can_press, text, size)
