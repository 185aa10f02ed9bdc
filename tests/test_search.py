from pressroots.copies import Copies
from pressroots.errors import BadText, NoText
from pressroots.ladders import Ladder
from pressroots.rows import Row, row_of
from pressroots.rules import Rules
from pressroots.search import found
from tests.all_presses import TEXTED, TEXTLESS, some_of_each_kind
from tests.helper import WRONG_TEXTS, PressCase, all_texts, plain_occurrences, plain_words
from tests.presses import SMALL_PHRASES, plain_rings, plain_spans, plain_text


def plain_found(phrases, word):
    """List the occurrences and their sources as the document tells them."""
    listed = []
    for start in plain_occurrences(plain_text(phrases), word):
        stop = start + len(word)
        source = None
        for (first, last), phrase in zip(plain_spans(phrases), phrases):
            # The occurrence lies within the copy and does not hold its last position.
            if phrase[0] == "copy" and first <= start and stop < last:
                source = start - first + phrase[1]
        if any(start <= last - 1 < stop for _, last in plain_spans(phrases)):
            assert source is None
        listed.append((start, source))
    return listed


def some_words(text):
    """List words of a text: the first and last ones of each length, and a few others."""
    size = len(text)
    starts = {0, 1, size // 3, size // 2, size - 2, size - 1}
    words = {text[start:start + length] for start in starts if 0 <= start for length in (1, 2, 3, 7, size // 2, size)}
    return sorted(words - {""})


class FoundTest(PressCase):
    def see(self, press, word):
        phrases = list(press.copies())
        told = found(press, word)
        self.assertEqual(told, plain_found(phrases, word), (phrases, word))
        starts = [start for start, _ in told]
        self.assertEqual(starts, plain_occurrences(press.text(), word))
        # Each source is the start of another item, and all sources lead to an item with None.
        sources = dict(told)
        for start in starts:
            seen = []
            while start is not None:
                self.assertNotIn(start, seen)
                self.assertIn(start, sources)
                seen.append(start)
                start = sources[start]

    def test_examples(self):
        press = Copies([("put", "a"), ("put", "b"), ("copy", 0, 5)])
        self.assertEqual(found(press, "ab"), [(0, None), (2, 0), (4, 2)])
        self.assertEqual(found(press, "ba"), [(1, None), (3, 1), (5, None)])
        self.assertEqual(found(press, "abababa"), [(0, None)])
        self.assertEqual(found(press, "bb"), [])
        # Read from behind.
        press = Copies([("copy", 3, 3), ("put", "x"), ("put", "y"), ("put", "x")])
        self.assertEqual(found(press, "x"), [(0, 3), (2, None), (3, None), (5, None)])
        self.assertEqual(found(press, "xy"), [(0, 3), (3, None)])

    def test_all_small_lists_of_phrases(self):
        for phrases in SMALL_PHRASES:
            if not plain_rings(phrases):
                press = Copies(phrases)
                for word in sorted(plain_words(press.text())):
                    self.see(press, word)

    def test_presses_of_all_kinds(self):
        for press in some_of_each_kind(TEXTED, 3):
            for word in some_words(press.text()):
                self.see(press, word)

    def test_overlapping_occurrences(self):
        press = Copies([("put", "a"), ("copy", 0, 5)])
        self.assertEqual(found(press, "aa"), [(0, None), (1, 0), (2, 1), (3, 2), (4, None)])
        self.assertEqual(found(press, "aaa"), [(0, None), (1, 0), (2, 1), (3, None)])
        press = Copies([("copy", 1, 5), ("put", "a")])
        self.assertEqual(found(press, "aa"), [(0, 1), (1, 2), (2, 3), (3, None), (4, None)])

    def test_words_at_the_borders_of_phrases(self):
        press = Copies([("put", "a"), ("put", "b"), ("put", "c"), ("copy", 0, 3), ("copy", 0, 3)])
        # The word ends where the copy does, begins where it does, or reaches across.
        self.assertEqual(found(press, "abc"), [(0, None), (3, None), (6, None)])
        self.assertEqual(found(press, "bc"), [(1, None), (4, None), (7, None)])
        self.assertEqual(found(press, "ab"), [(0, None), (3, 0), (6, 0)])
        self.assertEqual(found(press, "ca"), [(2, None), (5, None)])
        self.assertEqual(found(press, "c"), [(2, None), (5, None), (8, None)])
        self.assertEqual(found(press, "b"), [(1, None), (4, 1), (7, 1)])

    def test_each_other_kind(self):
        self.assertEqual(
            found(Rules([("letter", "a"), ("letter", "b"), ("pair", 0, 1), ("power", 2, 3)]), "ab"),
            [(0, None), (2, 0), (4, None)])
        self.assertEqual(found(Row("annb$aa"), "a"), [(1, 3), (3, None), (5, None)])
        self.assertEqual(found(row_of("banana"), "ana"), [(1, None), (3, None)])
        self.assertEqual(found(Ladder.over("aaaa", [0]), "a"), [(0, None), (1, None), (2, None), (3, None)])

    def test_words_that_do_not_occur(self):
        for press in some_of_each_kind(TEXTED, 20):
            text = press.text()
            for word in ["q" * 128, "zqz"] + ([text + "a", "b" + text] if len(text) < 128 else []):
                if word not in text:
                    self.assertEqual(found(press, word), [])
        for text in all_texts("ab", 3):
            for word in all_texts("ab", 4):
                self.assertEqual([start for start, _ in found(row_of(text), word)], plain_occurrences(text, word))

    def test_the_kinds_of_values(self):
        press = Copies([("put", "a"), ("put", "b"), ("copy", 0, 5)])
        for pair in found(press, "ab"):
            self.assertIs(type(pair), tuple)
            self.assertIs(type(pair[0]), int)
        self.see_new_lists(lambda: found(press, "ab"))

    def test_wrong_words(self):
        for press in some_of_each_kind(TEXTED, 60):
            for word in WRONG_TEXTS[::3]:
                with self.subTest(word):
                    self.assertRaises(BadText, found, press, word)

    def test_presses_without_a_text_come_first(self):
        for press in TEXTLESS[::3]:
            for word in ("a", "", "A", "a" * 129):
                self.assertRaises(NoText, found, press, word)
