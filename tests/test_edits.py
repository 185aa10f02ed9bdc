import unittest

from pressroots.copies import Copies
from pressroots.edits import cut, deleted, inserted, recoded, replaced
from pressroots.errors import BadPlaces, BadText, NoText, TooLong, TooShort
from pressroots.ladders import Ladder
from pressroots.led import recode_root
from pressroots.makers import greedy, pressed
from pressroots.rows import Row
from pressroots.rules import Rules
from tests.all_presses import KINDS, TEXTED, TEXTLESS, some_of_each_kind
from tests.helper import HUGE, LETTERS, LONG_TEXTS, SOME_TEXTS, all_texts, spots
from tests.presses import SMALL_PHRASES, WRONG_LETTERS, plain_rings, plain_spans, plain_text

SMALL = [phrases for phrases in SMALL_PHRASES if not plain_rings(phrases)]
MANY = [press for press in some_of_each_kind(TEXTED, 2) if press.length() > 4]
TABLES = [
    {}, {"a": "b"}, {"a": "b", "b": "a"}, {"a": "c", "b": "c"}, {"z": "a", "q": "b"}, {"a": "b", "b": "c", "c": "a"},
    dict(zip(LETTERS, LETTERS[::-1])), dict(zip(LETTERS, "x" * 26))]
OUTSIDE = [-1, -2, -128, -HUGE, HUGE]


# The phrases that are due, step by step as the document tells the steps.

def plain_cut(phrases, place, new):
    """Cut the phrase that covers a position, and let the new phrases stand there."""
    listed = []
    for (start, stop), phrase in zip(plain_spans(phrases), phrases):
        if not start <= place < stop:
            listed.append(phrase)
        else:
            if start < place:
                listed.append(("copy", phrase[1], place - start))
            listed += new
            if place + 1 < stop:
                listed.append(("copy", phrase[1] + place + 1 - start, stop - place - 1))
    return listed


def cut_readers(phrases, position, letter):
    """Cut each copy that reads a position there, one after the other."""
    while True:
        for (start, _), phrase in zip(plain_spans(phrases), phrases):
            if phrase[0] == "copy" and phrase[1] <= position < phrase[1] + phrase[2]:
                phrases = plain_cut(phrases, start + position - phrase[1], [("put", letter)])
                break
        else:
            return phrases


def shifted(phrase, least, by):
    return ("copy", phrase[1] + by, phrase[2]) if phrase[0] == "copy" and phrase[1] >= least else phrase


def plain_replaced(phrases, position, letter):
    phrases = cut_readers(phrases, position, plain_text(phrases)[position])
    return plain_cut(phrases, position, [("put", letter)])


def plain_divided(phrases, index, first):
    """Divide a copy into two parts, the first one of so many positions."""
    start, length = phrases[index][1:]
    return phrases[:index] + [("copy", start, first), ("copy", start + first, length - first)] + phrases[index + 1:]


def plain_inserted(phrases, position, letter):
    phrases = list(phrases)
    index = 0
    while index < len(phrases):
        phrase = phrases[index]
        if phrase[0] == "copy" and phrase[1] < position < phrase[1] + phrase[2]:
            phrases = plain_divided(phrases, index, position - phrase[1])
        index += 1
    for index, (start, stop) in enumerate(plain_spans(phrases)):
        if start <= position - 1 and position < stop:
            phrases = plain_divided(phrases, index, position - start)
            break
    many = len([stop for _, stop in plain_spans(phrases) if stop <= position])
    phrases = [shifted(phrase, position, 1) for phrase in phrases]
    return phrases[:many] + [("put", letter)] + phrases[many:]


def plain_deleted(phrases, position):
    phrases = cut_readers(phrases, position, plain_text(phrases)[position])
    return [shifted(phrase, position + 1, -1) for phrase in plain_cut(phrases, position, [])]


def some_positions(length, step):
    """List positions of a text, always the first and the last one."""
    return sorted({0, length - 1} | set(range(1, length, step)))


class EditCase(unittest.TestCase):
    def see(self, press, told, phrases, text, most):
        """See that an edit has these phrases, this text and at most so many phrases, and stays earlier."""
        self.assertIs(type(told), Copies)
        self.assertEqual(list(told), phrases)
        self.assertEqual(told.verdict(), ("text", text))
        self.assertLessEqual(told.size(), most)
        if press.copies().is_earlier():
            self.assertTrue(told.is_earlier())

    def see_no_text(self, ask, calls):
        """See that a press without a text is refused first, whatever the other arguments are."""
        for press in TEXTLESS:
            for call in calls:
                self.assertRaises(NoText, ask, press, *call)
        self.assertEqual({type(press) for press in TEXTLESS}, set(KINDS) - {Ladder})

    def see_positions(self, ask, more, outside):
        for press in some_of_each_kind(TEXTED, 15):
            for position in OUTSIDE + [press.length() + by for by in outside]:
                for items in more:
                    self.assertRaises(BadPlaces, ask, press, position, *items)


class ReplacedTest(EditCase):
    def see_all(self, press, position, letter):
        phrases, text = list(press.copies()), press.text()
        self.see(press, replaced(press, position, letter), plain_replaced(phrases, position, letter),
                 text[:position] + letter + text[position + 1:], 3 * len(phrases))

    def test_examples(self):
        press = Copies([("put", "a"), ("put", "b"), ("copy", 0, 5)])
        self.assertEqual(replaced(press, 0, "c").phrases, (("put", "c"), ("put", "b"), ("put", "a"), ("copy", 1, 4)))
        self.assertEqual(str(replaced(press, 3, "c")), "a b 0+1 c 2+1 b 4+1")
        self.assertEqual(str(replaced(press, 6, "c")), "a b 0+4 c")
        self.assertEqual(str(replaced(press, 2, "c")), "a b c 1+1 a 3+2")

    def test_all_small_presses(self):
        for phrases in SMALL:
            for position in range(len(plain_text(phrases))):
                for letter in "abc":
                    self.see_all(Copies(phrases), position, letter)

    def test_presses_of_all_kinds(self):
        for press in MANY:
            for position in some_positions(press.length(), 1 + press.length() // 5):
                self.see_all(press, position, press.text()[position])
                self.see_all(press, position, "z")

    def test_several_copies_that_read_the_position(self):
        press = Copies([("copy", 3, 3), ("put", "x"), ("put", "y"), ("put", "z"), ("copy", 1, 4), ("copy", 4, 1)])
        self.assertEqual(press.text(), "xyzxyzyzxyy")
        self.assertEqual(str(replaced(press, 4, "q")), "3+1 y 5+1 x q z 1+3 y y")
        # A put of the position itself is the phrase of this position alone.
        self.assertEqual(str(replaced(press, 3, "q")), "x 4+2 q y z 1+2 x 4+1 4+1")

    def test_a_copy_that_reads_the_position_and_covers_it(self):
        press = Copies([("put", "a"), ("copy", 0, 4)])
        self.assertEqual(str(replaced(press, 2, "b")), "a 0+1 b a 3+1")
        self.assertEqual(str(replaced(press, 1, "b")), "a b a 2+2")
        self.assertEqual(str(replaced(press, 4, "b")), "a 0+3 b")
        self.assertEqual(str(replaced(press, 0, "a")), "a a 1+3")
        press = Copies([("copy", 1, 4), ("put", "a")])
        self.assertEqual(str(replaced(press, 2, "b")), "1+1 a b 4+1 a")

    def test_texts_of_one_letter_and_of_128(self):
        for letter in "az":
            self.assertEqual(replaced(Copies([("put", "a")]), 0, letter).phrases, (("put", letter),))
        for text in LONG_TEXTS:
            for position in (0, 64, 127):
                self.see_all(greedy(text), position, "k")

    def test_positions_that_are_not_in_the_text(self):
        self.see_positions(replaced, [("a",), ("",), ("A",), ("ab",)], [0, 1])

    def test_wrong_letters(self):
        for press in some_of_each_kind(TEXTED, 40):
            for letter in WRONG_LETTERS + ["a" * 129]:
                for position in spots(press.text()):
                    self.assertRaises(BadText, replaced, press, position, letter)

    def test_presses_without_a_text(self):
        self.see_no_text(replaced, [(0, "a"), (-1, "a"), (0, ""), (HUGE, "A")])


class InsertedTest(EditCase):
    def see_all(self, press, position, letter):
        phrases, text = list(press.copies()), press.text()
        self.see(press, inserted(press, position, letter), plain_inserted(phrases, position, letter),
                 text[:position] + letter + text[position:], 2 * len(phrases) + 1)

    def test_examples(self):
        press = Copies([("put", "a"), ("put", "b"), ("copy", 0, 5)])
        self.assertEqual(inserted(press, 3, "c").phrases, (
            ("put", "a"), ("put", "b"), ("copy", 0, 1), ("put", "c"), ("copy", 1, 2), ("copy", 4, 2)))
        self.assertEqual(str(inserted(press, 0, "c")), "c a b 1+5")
        self.assertEqual(str(inserted(press, 7, "c")), "a b 0+5 c")
        self.assertEqual(str(inserted(press, 1, "c")), "a c b 0+1 2+4")
        self.assertEqual(str(inserted(press, 2, "c")), "a b c 0+2 3+3")
        self.assertEqual(str(inserted(press, 6, "c")), "a b 0+4 c 4+1")

    def test_all_small_presses(self):
        for phrases in SMALL:
            for position in range(len(plain_text(phrases)) + 1):
                for letter in "ac":
                    self.see_all(Copies(phrases), position, letter)

    def test_presses_of_all_kinds(self):
        for press in MANY:
            if press.length() < 128:
                for position in some_positions(press.length() + 1, 1 + press.length() // 5):
                    self.see_all(press, position, "z")

    def test_several_copies_that_read_across_the_position(self):
        press = Copies([("copy", 3, 3), ("put", "x"), ("put", "y"), ("put", "z"), ("copy", 1, 4), ("copy", 4, 2)])
        self.assertEqual(press.text(), "xyzxyzyzxyyz")
        self.assertEqual(str(inserted(press, 5, "q")), "3+2 6+1 x y q z 1+4 4+1 6+1")
        self.assertEqual(str(inserted(press, 2, "q")), "4+2 q 6+1 x y z 1+1 3+3 5+2")
        # It is divided where it reads the position and where it covers it.
        press = Copies([("put", "a"), ("copy", 0, 6)])
        self.assertEqual(str(inserted(press, 3, "b")), "a 0+2 b 2+1 4+3")

    def test_texts_of_127_and_128_letters(self):
        for text in LONG_TEXTS:
            for position in (0, 1, 63, 126, 127):
                self.see_all(greedy(text[:127]), position, "k")
            for position in (0, 1, 64, 127, 128):
                self.assertRaises(TooLong, inserted, greedy(text), position, "k")
                # A wrong letter comes before the length.
                for letter in WRONG_LETTERS:
                    self.assertRaises(BadText, inserted, greedy(text), position, letter)
            self.assertRaises(BadPlaces, inserted, greedy(text), 129, "k")

    def test_one_letter(self):
        self.assertEqual(str(inserted(Copies([("put", "a")]), 0, "b")), "b a")
        self.assertEqual(str(inserted(Copies([("put", "a")]), 1, "b")), "a b")

    def test_positions_that_are_not_in_the_text(self):
        self.see_positions(inserted, [("a",), ("",), ("A",), ("ab",)], [1, 2])

    def test_wrong_letters(self):
        for press in some_of_each_kind(TEXTED, 40):
            for letter in WRONG_LETTERS + ["a" * 129]:
                for position in spots(press.text() + "$"):
                    self.assertRaises(BadText, inserted, press, position, letter)

    def test_presses_without_a_text(self):
        self.see_no_text(inserted, [(0, "a"), (-1, "a"), (0, ""), (HUGE, "A")])


class DeletedTest(EditCase):
    def see_all(self, press, position):
        phrases, text = list(press.copies()), press.text()
        self.see(press, deleted(press, position), plain_deleted(phrases, position),
                 text[:position] + text[position + 1:], 3 * len(phrases) - 1)

    def test_examples(self):
        press = Copies([("put", "a"), ("put", "b"), ("copy", 0, 5)])
        self.assertEqual(deleted(press, 1).phrases, (("put", "a"), ("copy", 0, 1), ("put", "b"), ("copy", 1, 3)))
        self.assertEqual(str(deleted(press, 0)), "b a 0+4")
        self.assertEqual(str(deleted(press, 6)), "a b 0+4")
        self.assertEqual(str(deleted(press, 2)), "a b 1+1 a 2+2")

    def test_all_small_presses(self):
        for phrases in SMALL:
            size = len(plain_text(phrases))
            for position in range(size):
                if size > 1:
                    self.see_all(Copies(phrases), position)

    def test_presses_of_all_kinds(self):
        for press in MANY:
            for position in some_positions(press.length(), 1 + press.length() // 5):
                self.see_all(press, position)

    def test_several_copies_that_read_the_position(self):
        press = Copies([("copy", 3, 3), ("put", "x"), ("put", "y"), ("put", "z"), ("copy", 1, 4), ("copy", 4, 1)])
        self.assertEqual(press.text(), "xyzxyzyzxyy")
        self.assertEqual(str(deleted(press, 4)), "3+1 y 4+1 x z 1+3 y y")
        press = Copies([("put", "a"), ("copy", 0, 4)])
        self.assertEqual(str(deleted(press, 2)), "a 0+1 a 2+1")
        self.assertEqual(str(deleted(press, 0)), "a 0+3")

    def test_texts_of_one_letter(self):
        one = [Copies([("put", "a")]), Rules([("letter", "b")]), Row("c$"), Ladder(1, [[(0, "d")]])]
        for press in one:
            self.assertRaises(TooShort, deleted, press, 0)
            # A wrong position comes first.
            for position in (-1, 1, HUGE, -HUGE):
                self.assertRaises(BadPlaces, deleted, press, position)

    def test_texts_of_128_letters(self):
        for text in LONG_TEXTS:
            for position in (0, 1, 64, 127):
                self.see_all(greedy(text), position)

    def test_positions_that_are_not_in_the_text(self):
        self.see_positions(deleted, [()], [0, 1])

    def test_presses_without_a_text(self):
        self.see_no_text(deleted, [(0,), (-1,), (HUGE,)])


class GreedyEditsTest(unittest.TestCase):
    def test_the_number_of_phrases_of_greedy(self):
        for text in all_texts("ab", 6) + SOME_TEXTS + LONG_TEXTS[::3]:
            most = 3 * greedy(text).size()
            for position in spots(text):
                edited = [text[:position] + letter + text[position + 1:] for letter in "abz"]
                if len(text) < 128:
                    edited.append(text[:position] + "z" + text[position:])
                if len(text) > 1:
                    edited.append(text[:position] + text[position + 1:])
                for other in edited:
                    self.assertLessEqual(greedy(other).size(), most)

    def test_the_presses_stay_as_they_were(self):
        for press in some_of_each_kind(TEXTED, 10):
            before = (list(press.copies()), press.verdict())
            replaced(press, 0, "k")
            recoded(press, {"a": "b"})
            cut(press, 0, 1)
            if 1 < press.length() < 128:
                inserted(press, 0, "k")
                deleted(press, 0)
            self.assertEqual((list(press.copies()), press.verdict()), before)


class RecodedTest(EditCase):
    def test_examples(self):
        press = Copies([("put", "a"), ("put", "b"), ("copy", 0, 5)])
        self.assertEqual(str(recoded(press, {"a": "b", "b": "a"})), "b a 0+5")
        self.assertEqual(str(recoded(press, {"a": "x", "b": "x"})), "x x 0+5")
        self.assertEqual(str(recoded(press, {"a": "b", "b": "c"})), "b c 0+5")
        self.assertEqual(str(recoded(press, {"z": "b"})), "a b 0+5")

    def test_presses_of_all_kinds(self):
        for press in TEXTED[::2]:
            for table in TABLES:
                given = list(table.items())
                told = recoded(press, table)
                phrases = [("put", table.get(phrase[1], phrase[1])) if phrase[0] == "put" else phrase
                           for phrase in press.copies()]
                self.see(press, told, phrases, recode_root(press.text(), [], table)[0], len(phrases))
                self.assertEqual(list(table.items()), given)

    def test_presses_without_a_text(self):
        self.see_no_text(recoded, [({},), ({"a": "b"},)])


class CutTest(EditCase):
    def test_the_press_of_a_stretch(self):
        for press in some_of_each_kind(TEXTED, 3):
            text = press.text()
            size = len(text)
            for start, stop in {(0, size), (0, 1), (size - 1, size), (size // 3, size // 2 + 1), (0, size // 2 + 1)}:
                told = cut(press, start, stop)
                self.assertIs(type(told), Copies)
                self.assertEqual(told.phrases, pressed(text[start:stop]).phrases)

    def test_stretches_that_do_not_lie_in_the_text(self):
        for press in some_of_each_kind(TEXTED, 15):
            size = press.length()
            for start, stop in [
                    (0, 0), (size, size), (-1, 1), (-1, size), (0, size + 1), (size, size + 1), (1, 0), (size, 0),
                    (-HUGE, HUGE), (0, HUGE), (-HUGE, size), (HUGE, HUGE + 1), (HUGE, 0), (0, -HUGE), (0, -1),
                    (-size, -size + 1), (size - 1, size - 1)]:
                self.assertRaises(BadPlaces, cut, press, start, stop)

    def test_presses_without_a_text(self):
        self.see_no_text(cut, [(0, 1), (0, 0), (-HUGE, HUGE), (1, 0)])
