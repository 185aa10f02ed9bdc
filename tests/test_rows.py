import unittest

from pressroots.copies import Copies
from pressroots.errors import BadPlaces, BadPress, BadText, NoText, TooLong
from pressroots.press import Press
from pressroots.rows import Row, row_of
from tests.helper import (
    HUGE, LONG_TEXTS, SOME_TEXTS, WRONG_TEXTS, PressCase, all_texts, mixed, plain_occurrences, plain_words, spots)
from tests.presses import all_rows, plain_order, plain_row

SMALL_TEXTS = all_texts("ab", 6) + all_texts("abc", 4)
TEXTS = SMALL_TEXTS + SOME_TEXTS + LONG_TEXTS + ["q" * many for many in (2, 5, 64, 127)] + [
    mixed("abcdefgh"[:2 + seed % 5], 10 + 4 * seed, seed) for seed in range(25)]
TEXT_OF_ROW = {plain_row(text): text for text in all_texts("ab", 6) + all_texts("abc", 5)}
ROWS = all_rows("ab", 7) + all_rows("abc", 5)
OUTSIDE = [-1, -2, -128, -HUGE, HUGE]


def plain_steps(letters):
    """List the steps: the rank of each row among all rows, by sign and then by number."""
    order = sorted(range(len(letters)), key=lambda row: (letters[row], row))
    return [order.index(row) for row in range(len(letters))]


def plain_runs(letters):
    firsts = [row for row in range(len(letters)) if row == 0 or letters[row - 1] != letters[row]]
    runs = list(zip(firsts, firsts[1:] + [len(letters)]))
    return [(start, stop) for start, stop in runs if letters[start] != "$"]


def plain_round(letters):
    """Return the round of the verdict, or None if all rows are visited."""
    steps = plain_steps(letters)
    visited, row = [], 0
    while row not in visited:
        visited.append(row)
        row = steps[row]
    left = [row for row in range(len(letters)) if row not in visited]
    if not left:
        return None
    rows = left[:1]
    while steps[rows[-1]] not in rows:
        rows.append(steps[rows[-1]])
    return rows


def plain_spans(text, word):
    """List the spans of the suffixes of a word by counting sorted suffixes."""
    suffixes = sorted(text[start:] for start in range(len(text) + 1))
    spans = []
    for length in range(len(word) + 1):
        part = word[len(word) - length:]
        held = [suffix.startswith(part) for suffix in suffixes]
        if True in held:
            spans.append((held.index(True), held.index(True) + held.count(True)))
        else:
            # Only that low and high are equal follows from the suffixes alone.
            spans.append(None)
    return spans


def plain_copies(text):
    letters, order = plain_row(text), plain_order(text)
    sources = []
    for place in range(len(text)):
        row = order.index(place + 1)
        first = row == 0 or letters[row - 1] != letters[row]
        sources.append(None if first else order[row - 1] - 1)
    phrases = []
    for place, source in enumerate(sources):
        if source is None:
            phrases.append(("put", text[place]))
        elif place == 0 or sources[place - 1] is None:
            phrases.append(("copy", source, 1))
        else:
            phrases[-1] = ("copy", phrases[-1][1], phrases[-1][2] + 1)
    return tuple(phrases), sources


class RowFormTest(PressCase):
    def refuse_form(self, letters, index):
        self.refuse(BadPress, Row, letters, index)

    def test_each_fault_at_each_place(self):
        for good in ("a$", "annb$aa", "$" + "a" * 128, "a" * 128 + "$", "ab" * 32 + "$" + "ba" * 32):
            self.assertEqual(Row(good).letters, good)
            for sign in "AZ09 \n\t`{#&":
                for at in spots(good):
                    self.refuse_form(good[:at] + sign + good[at:], at)
                    self.refuse_form(good[:at] + sign + good[at + 1:], at)
                self.refuse_form(good + sign, len(good))
        for sign in "A0 \n\t":
            self.refuse_form(sign, 0)

    def test_a_second_dollar(self):
        self.refuse_form("$$", 1)
        self.refuse_form("a$$", 2)
        self.refuse_form("$a$", 2)
        self.refuse_form("$a$b$", 2)
        self.refuse_form("a$bcd$", 5)
        self.refuse_form("$" + "a" * 127 + "$", 128)
        self.refuse_form("$" + "a" * 128 + "$", 129)
        self.refuse_form("$a" * 1000, 2)

    def test_no_dollar_and_no_letter(self):
        self.refuse_form("", 0)
        self.refuse_form("$", 1)
        for many in (1, 2, 5, 128, 129, 130, 1000):
            self.refuse_form("a" * many, many)

    def test_129_and_130_signs(self):
        for at in (0, 1, 64, 127, 128):
            right = "a" * at + "$" + "a" * (128 - at)
            self.assertEqual(len(Row(right).letters), 129)
            self.assertRaises(TooLong, Row, right + "b")
            self.assertRaises(TooLong, Row, "b" + right)
        self.assertRaises(TooLong, Row, "$" + "ab" * 50000)
        self.assertRaises(TooLong, Row, "ab" * 50000 + "$")

    def test_the_order_of_the_checks(self):
        self.refuse_form("aB", 1)
        self.refuse_form("B", 0)
        self.refuse_form("a$B$", 2)
        self.refuse_form("a$$B", 2)
        self.refuse_form("$B", 1)
        self.refuse_form("a" * 500 + "B", 500)
        self.refuse_form("$" + "a" * 500 + "B", 501)
        self.refuse_form("$" + "a" * 500 + "$", 501)
        self.refuse_form("a" * 500, 500)

    def test_the_attribute(self):
        for letters in ROWS + [plain_row(text) for text in TEXTS]:
            row = Row(letters)
            self.assertIsInstance(row, Press)
            self.assertIs(type(row.letters), str)
            self.assertEqual(row.letters, letters)


class RowOfTest(unittest.TestCase):
    def test_examples(self):
        self.assertEqual(row_of("banana").letters, "annb$aa")
        self.assertEqual(row_of("a").letters, "a$")
        self.assertEqual(row_of("ab").letters, "b$a")
        self.assertEqual(row_of("ba").letters, "ab$")
        self.assertIs(type(row_of("banana")), Row)

    def test_against_a_plain_sort(self):
        for text in TEXTS:
            self.assertEqual(row_of(text).letters, plain_row(text), text)

    def test_a_wrong_text_is_refused(self):
        for text in WRONG_TEXTS + ["annb$aa"]:
            with self.subTest(text), self.assertRaises(BadText):
                row_of(text)


class RowVerdictTest(unittest.TestCase):
    def test_examples(self):
        self.assertEqual(Row("annb$aa").verdict(), ("text", "banana"))
        self.assertEqual(Row("annb$aa").steps(), [1, 5, 6, 4, 0, 2, 3])
        self.assertEqual(Row("a$b").verdict(), ("round", [2]))
        self.assertEqual(Row("$a").verdict(), ("round", [1]))
        self.assertEqual(Row("a$").verdict(), ("text", "a"))
        self.assertEqual(Row("$ab").verdict(), ("round", [1]))
        self.assertEqual(Row("$ba").verdict(), ("round", [1, 2]))

    def test_all_small_rows(self):
        texts, rounds = 0, 0
        for letters in ROWS:
            row = Row(letters)
            self.assertEqual(row.steps(), plain_steps(letters), letters)
            if letters in TEXT_OF_ROW:
                self.assertEqual(row.verdict(), ("text", TEXT_OF_ROW[letters]), letters)
                texts += 1
            else:
                self.assertEqual(row.verdict(), ("round", plain_round(letters)), letters)
                rounds += 1
        self.assertGreater(min(texts, rounds), 100)

    def test_there_and_back(self):
        for text in TEXTS:
            row = row_of(text)
            self.assertEqual(row.verdict(), ("text", text))
            self.assertEqual((row.text(), row.length()), (text, len(text)))
            self.assertEqual(row.steps(), plain_steps(row.letters))
            for position in spots(text):
                self.assertEqual(row.letter(position), text[position])
            for position in OUTSIDE + [len(text), len(text) + 1]:
                self.assertRaises(BadPlaces, row.letter, position)
        for position in range(6):
            self.assertEqual(row_of("banana").letter(position), "banana"[position])

    def test_long_rounds(self):
        self.assertEqual(Row("$" + "a" * 128).verdict(), ("round", [1]))
        for at in (0, 1, 63, 100):
            signs = mixed("abc", 128, at)
            letters = signs[:at] + "$" + signs[at:]
            wanted = plain_round(letters)
            if wanted is not None:
                self.assertEqual(Row(letters).verdict(), ("round", wanted))

    def test_no_text_and_then_the_arguments(self):
        for letters in ROWS + ["$" + "a" * 128]:
            if letters in TEXT_OF_ROW:
                continue
            row = Row(letters)
            for ask in (row.text, row.length, row.copies, row.root, row.facts, row.starts):
                self.assertRaises(NoText, ask)
            for position in OUTSIDE + [0, len(letters)]:
                self.assertRaises(NoText, row.letter, position)
            for word in ("a", "", "A", "a" * 129, "$"):
                self.assertRaises(NoText, row.spans, word)


class RowWalkTest(PressCase):
    def test_examples(self):
        row = Row("annb$aa")
        self.assertEqual(row.starts(), [6, 5, 3, 1, 0, 4, 2])
        self.assertEqual(row.spans("ana"), [(0, 7), (1, 4), (5, 7), (2, 4)])
        self.assertEqual(row.runs(), [(0, 1), (1, 3), (3, 4), (5, 7)])
        self.assertEqual(row.size(), 8)
        self.assertEqual(row.copies().phrases, (
            ("put", "b"), ("copy", 3, 2), ("put", "a"), ("put", "n"), ("put", "a")))
        self.assertEqual(row.facts(), [("length", 6), ("size", 8), ("root", 5), ("runs", 4)])

    def test_starts(self):
        for text in TEXTS:
            self.assertEqual(row_of(text).starts(), plain_order(text), text)

    def test_runs_and_sizes(self):
        for letters in ROWS + [plain_row(text) for text in TEXTS]:
            runs = plain_runs(letters)
            self.assertEqual(Row(letters).runs(), runs, letters)
            self.assertEqual(Row(letters).size(), 2 * len(runs), letters)
        # A run does not reach across the row with $.
        self.assertEqual(Row("aa$aa").runs(), [(0, 2), (3, 5)])
        self.assertEqual(Row("$aa").runs(), [(1, 3)])
        self.assertEqual(Row("aa$").runs(), [(0, 2)])
        # The first row is no neighbour of the last one.
        self.assertEqual(Row("a$ba").runs(), [(0, 1), (2, 3), (3, 4)])
        self.assertEqual(Row("$" + "a" * 128).size(), 2)

    def test_spans_of_words_that_occur(self):
        for text in SMALL_TEXTS[::5] + SOME_TEXTS[:8] + LONG_TEXTS[-2:]:
            row = row_of(text)
            words = sorted(plain_words(text))
            for word in words if len(text) < 20 else words[::97]:
                spans = row.spans(word)
                self.assertEqual(spans, plain_spans(text, word), (text, word))
                self.assertEqual(spans[-1][1] - spans[-1][0], len(plain_occurrences(text, word)))

    def test_spans_of_words_that_do_not_occur(self):
        self.assertEqual(Row("annb$aa").spans("nn"), [(0, 7), (5, 7), (7, 7)])
        self.assertEqual(Row("annb$aa").spans("z"), [(0, 7), (7, 7)])
        self.assertEqual(Row("annb$aa").spans("c"), [(0, 7), (5, 5)])
        self.assertEqual(Row("annb$aa").spans("ac"), [(0, 7), (5, 5), (2, 2)])
        self.assertEqual(Row("a$").spans("aaa"), [(0, 2), (1, 2), (2, 2), (2, 2)])
        for text in SMALL_TEXTS[::3] + SOME_TEXTS:
            row = row_of(text)
            letters = row.letters
            for word in all_texts("abz", 4) + [text + "a", "a" + text, text * 2, "a" * 128]:
                if len(word) > 128:
                    continue
                spans = row.spans(word)
                self.assertEqual(len(spans), len(word) + 1)
                low, high = 0, len(letters)
                for sign, span, plain in zip(word[::-1], spans[1:], plain_spans(text, word)[1:]):
                    less = sum(other < sign for other in letters)
                    low = less + letters[:low].count(sign)
                    high = less + letters[:high].count(sign)
                    self.assertEqual(span, (low, high), (text, word))
                    self.assertIn(plain, (None, span))
                    self.assertEqual(plain is None, low == high)

    def test_spans_of_wrong_words(self):
        for row in (Row("annb$aa"), row_of("q"), row_of("a" * 128)):
            for word in WRONG_TEXTS + ["$", "a$"]:
                self.assertRaises(BadText, row.spans, word)

    def test_copies(self):
        for text in TEXTS:
            row = row_of(text)
            copies = row.copies()
            phrases, sources = plain_copies(text)
            self.assertIs(type(copies), Copies)
            self.assertEqual(copies.phrases, phrases, text)
            self.assertEqual(copies.sources(), sources, text)
            self.assertEqual(copies.text(), text)
            self.assertLessEqual(copies.size(), row.size())
            self.assertEqual(sources.count(None), len(row.runs()))
            self.assertEqual(row.root(), copies.ends())
            self.assertEqual(row.facts(), [
                ("length", len(text)), ("size", row.size()), ("root", len(phrases)), ("runs", len(row.runs()))])

    def test_changed_answers_change_no_later_ones(self):
        row = Row("annb$aa")
        for ask in (row.steps, row.runs, row.starts, row.root, row.facts, lambda: row.spans("ana")):
            self.see_new_lists(ask)
        self.assertEqual(row.letters, "annb$aa")
        row = Row("a$bb")
        rows = row.verdict()[1]
        self.assertIs(type(rows), list)
        rows.append(7)
        rows[0] = 7
        self.assertEqual(row.verdict(), ("round", [2]))

    def test_the_kinds_of_the_answers(self):
        row = Row("annb$aa")
        for item in row.runs() + row.spans("ana") + row.facts() + [row.verdict(), Row("a$b").verdict()]:
            self.assertIs(type(item), tuple)
