import unittest

from pressroots.errors import BadPlaces, BadText
from pressroots.texts import MOST, check_places, check_position, check_text, is_letter, letter_at
from tests.helper import LETTERS, LONG_TEXTS, SOME_TEXTS, WRONG_TEXTS, spots

# Size and places: none, one, some and all of the positions.
GOOD_PLACES = [
    (1, []), (1, [0]), (2, [0]), (2, [1]), (2, [0, 1]), (5, []), (5, [0]), (5, [4]), (5, [0, 2, 3]),
    (5, [0, 1, 2, 3, 4]), (128, []), (128, [0, 127]), (128, [3, 64, 65, 126]), (128, list(range(128))),
]


class MostTest(unittest.TestCase):
    def test_most_is_the_integer_128(self):
        self.assertIs(type(MOST), int)
        self.assertEqual(MOST, 128)


class CheckTextTest(unittest.TestCase):
    def test_a_text_is_returned(self):
        for text in list(LETTERS) + ["a" * 128, "z" * 128, "a" * 127] + SOME_TEXTS + LONG_TEXTS:
            with self.subTest(text):
                self.assertEqual(check_text(text), text)
                self.assertIs(type(check_text(text)), str)

    def test_the_lengths_of_texts_are_1_to_128(self):
        for length in range(1, 129):
            self.assertEqual(len(check_text("q" * length)), length)
        for length in (0, 129, 130, 1000, 100000):
            with self.subTest(length), self.assertRaises(BadText):
                check_text("q" * length)

    def test_any_other_string_is_refused(self):
        for text in WRONG_TEXTS:
            with self.subTest(text), self.assertRaises(BadText):
                check_text(text)

    def test_every_sign_but_the_letters_is_refused_at_every_place(self):
        for sign in [chr(code) for code in range(32, 127)] + ["\t", "\n"]:
            for at in range(3):
                text = "ab"[:at] + sign + "ab"[at:]
                with self.subTest(text):
                    if sign in LETTERS:
                        self.assertEqual(check_text(text), text)
                    else:
                        self.assertRaises(BadText, check_text, text)


class LettersTest(unittest.TestCase):
    def test_only_a_single_lowercase_letter_is_one(self):
        for sign in LETTERS:
            self.assertIs(is_letter(sign), True)
        for sign in ["", "aa", "ab", "A", "Z", "0", "`", "{", " ", "\n", "a ", "a\n", "z" * 128]:
            self.assertIs(is_letter(sign), False)

    def test_positions_of_the_text(self):
        for size in (1, 2, 5, 128):
            for position in (0, size // 2, size - 1):
                self.assertEqual(check_position(size, position), position)
            for position in (-1, -size, size, size + 1, 10 ** 30, -10 ** 30):
                self.assertRaises(BadPlaces, check_position, size, position)
                self.assertRaises(BadPlaces, letter_at, "a" * size, position)
        self.assertEqual([letter_at("abc", position) for position in range(3)], ["a", "b", "c"])


class CheckPlacesTest(unittest.TestCase):
    def refuse(self, size, places):
        passed = list(places)
        with self.subTest(size=size, places=places), self.assertRaises(BadPlaces):
            check_places(size, passed)
        self.assertEqual(passed, places)

    def test_the_positions_are_returned(self):
        for size, places in GOOD_PLACES:
            with self.subTest(size=size, places=places):
                self.assertEqual(check_places(size, places), places)
                self.assertIs(type(check_places(size, places)), list)

    def test_each_returned_list_is_new(self):
        for size, places in GOOD_PLACES:
            with self.subTest(size=size, places=places):
                passed = list(places)
                first = check_places(size, passed)
                second = check_places(size, passed)
                self.assertIsNot(first, passed)
                self.assertIsNot(first, second)
                first.append(77)
                self.assertEqual(passed, places)
                self.assertEqual(second, places)
                self.assertEqual(check_places(size, passed), places)
                passed.insert(0, -5)
                self.assertEqual(second, places)

    def test_an_item_outside_of_the_text_is_refused_at_every_place(self):
        for size, places in GOOD_PLACES:
            for at in range(len(places) + 1):
                for wrong in (-1, size, size + 1, 10 ** 30, -10 ** 30, 10 ** 5000):
                    self.refuse_silently(size, places[:at] + [wrong] + places[at:])
                    self.refuse_silently(size, places[:at] + [wrong] + places[at + 1:])

    def refuse_silently(self, size, places):
        # Python does not write out the greatest of these integers, so that no subTest shows them.
        with self.assertRaises(BadPlaces):
            check_places(size, list(places))

    def test_only_the_range_is_wrong(self):
        self.refuse(1, [-1])
        self.refuse(1, [1])
        self.refuse(4, [-1, 0, 1])
        self.refuse(4, [-2, -1])
        self.refuse(4, [2, 3, 4])
        self.refuse(4, [0, 1, 2, 3, 4])
        self.refuse(128, [0, 128])
        self.refuse(127, [127])
        self.refuse(3, [-10 ** 30, 0, 1])
        self.refuse(3, [0, 1, 10 ** 30])

    def test_an_item_twice_is_refused_at_every_place(self):
        for size, places in GOOD_PLACES:
            for at in spots(places) if places else []:
                self.refuse(size, places[:at + 1] + places[at:])

    def test_two_exchanged_items_are_refused_at_every_place(self):
        for size, places in GOOD_PLACES:
            for at in spots(places[1:]) if len(places) > 1 else []:
                self.refuse(size, places[:at] + [places[at + 1], places[at]] + places[at + 2:])
        self.refuse(5, [4, 1, 2, 3, 0])
        self.refuse(3, [2, 1, 0])
