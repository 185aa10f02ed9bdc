from pressroots.copies import Copies
from pressroots.errors import BadPress, TooLong
from pressroots.press import Press
from tests.helper import HUGE, PressCase, spots
from tests.presses import LONG_PHRASES, MANY_PHRASES, SMALL_PHRASES, WRONG_LETTERS

WRONG_PHRASES = [("put", letter) for letter in WRONG_LETTERS] + [
    ("copy", -1, 1), ("copy", -1, 2), ("copy", -128, 1), ("copy", -HUGE, 1),
    ("copy", 0, 0), ("copy", 0, -1), ("copy", 1, -1), ("copy", 0, -HUGE), ("copy", -1, 0), ("copy", HUGE, 0),
]
GOOD_PHRASES = [("put", "a"), ("copy", 0, 2), ("put", "z"), ("copy", 1, 1), ("put", "m")]


class CopiesFormTest(PressCase):
    def refuse_form(self, phrases, index):
        self.refuse(BadPress, Copies, phrases, index)

    def refuse_length(self, phrases):
        with self.subTest(phrases=phrases[:5]), self.assertRaises(TooLong):
            Copies(phrases)

    def test_the_empty_list(self):
        self.refuse_form([], 0)

    def test_each_fault_of_a_phrase_at_each_place(self):
        for wrong in WRONG_PHRASES:
            self.refuse_form([wrong], 0)
            for at in range(len(GOOD_PHRASES) + 1):
                self.refuse_form(GOOD_PHRASES[:at] + [wrong] + GOOD_PHRASES[at:], at)
            for at in spots(range(128)):
                self.refuse_form([("put", "a")] * at + [wrong] + [("put", "a")] * (127 - at), at)

    def test_the_first_of_two_faults_of_a_phrase_counts(self):
        for first in WRONG_PHRASES:
            for second in WRONG_PHRASES[::5]:
                self.refuse_form([("put", "a"), first, second], 1)
                self.refuse_form([first, ("put", "a"), second], 0)

    def test_127_128_and_129_positions(self):
        for length in (127, 128):
            for phrases in ([("put", "a")] * length, [("copy", 0, length)],
                            [("put", "b"), ("copy", 0, length - 1)], [("copy", 1, length - 1), ("put", "b")]):
                self.assertEqual(Copies(phrases).length(), length)
                self.assertEqual(len(Copies(phrases).sources()), length)
        for phrases in ([("put", "a")] * 129, [("copy", 0, 129)], [("put", "b"), ("copy", 0, 128)],
                        [("copy", 0, 64), ("put", "b"), ("copy", 0, 64)], [("copy", 1, 128), ("put", "b")],
                        [("put", "a")] * 100000):
            self.refuse_length(phrases)

    def test_huge_lengths_are_too_long(self):
        for at in range(len(GOOD_PHRASES) + 1):
            self.refuse_length(GOOD_PHRASES[:at] + [("copy", 0, HUGE)] + GOOD_PHRASES[at:])
            self.refuse_length(GOOD_PHRASES[:at] + [("copy", HUGE, HUGE)] + GOOD_PHRASES[at:])
        self.refuse_length([("copy", 0, 10 ** 5000)])
        self.refuse_length([("copy", 0, HUGE // 2), ("copy", 0, HUGE // 2)])
        self.refuse_length([("copy", 0, 100), ("copy", 0, 100)])

    def test_a_copy_ends_at_the_last_position_or_before_it(self):
        for length in (1, 2, 5, 127, 128):
            for reach in sorted({1, (length + 1) // 2, length}):
                for before in sorted({0, (length - reach) // 2, length - reach}):
                    puts = [("put", "a")] * before
                    more = [("put", "a")] * (length - reach - before)
                    right = puts + [("copy", length - reach, reach)] + more
                    self.assertEqual(Copies(right).phrases, tuple(right))
                    self.refuse_form(puts + [("copy", length - reach + 1, reach)] + more, before)
                    self.refuse_form(puts + [("copy", HUGE, reach)] + more, before)
        self.refuse_form(GOOD_PHRASES + [("copy", 10 ** 5000, 1)], len(GOOD_PHRASES))

    def test_the_first_copy_behind_the_last_position_counts(self):
        self.refuse_form([("put", "a"), ("copy", 3, 1), ("copy", 3, 1)], 1)
        self.refuse_form([("copy", 2, 1), ("copy", 3, 1), ("copy", 9, 1)], 1)
        self.refuse_form([("copy", 2, 1), ("copy", 1, 1), ("copy", HUGE, 1)], 2)

    def test_the_order_of_the_checks(self):
        behind = ("copy", 500, 1)
        long = ("copy", 0, 129)
        for wrong in WRONG_PHRASES:
            # A faulty phrase comes before the length, wherever the two stand.
            self.refuse_form([wrong, long], 0)
            self.refuse_form([long, wrong], 1)
            self.refuse_form([("copy", 0, HUGE), ("put", "a"), wrong], 2)
            self.refuse_form([("put", "a")] * 128 + [wrong], 128)
            self.refuse_form([("put", "a")] * 129 + [wrong], 129)
            # A faulty phrase comes before a copy that ends behind the last position.
            self.refuse_form([wrong, behind], 0)
            self.refuse_form([behind, wrong], 1)
        # The length comes before a copy that ends behind the last position.
        self.refuse_length([long, behind])
        self.refuse_length([behind, long])
        self.refuse_length([behind] + [("put", "a")] * 128)
        self.refuse_length([("put", "a")] * 128 + [behind])

    def test_the_attribute_and_the_iteration(self):
        for phrases in MANY_PHRASES:
            press = Copies(phrases)
            self.assertIsInstance(press, Press)
            self.assertIs(type(press.phrases), tuple)
            self.assertEqual(press.phrases, tuple(phrases))
            self.assertEqual(list(press), phrases)
            self.assertEqual([phrase for phrase in press], phrases)
            self.assertEqual(press.size(), len(phrases))
        press = Copies(GOOD_PHRASES)
        self.assertEqual(list(zip(press, press)), list(zip(GOOD_PHRASES, GOOD_PHRASES)))

    def test_a_list_that_is_changed_later_changes_no_press(self):
        for phrases in SMALL_PHRASES[::7] + LONG_PHRASES:
            passed = list(phrases)
            press = Copies(passed)
            self.assertEqual(passed, phrases)
            passed.append(("put", "z"))
            passed[0] = ("put", "z")
            self.assertEqual(press.phrases, tuple(phrases))
            self.assertEqual(press.length(), Copies(phrases).length())
            self.assertEqual(press.verdict(), Copies(phrases).verdict())
            passed.clear()
            self.assertEqual(list(press), phrases)

    def test_a_refused_list_stays_as_it_was(self):
        for phrases in ([("put", "a"), ("put", "B")], [("copy", 0, 129)], [("copy", 1, 1)]):
            passed = list(phrases)
            self.assertRaises((BadPress, TooLong), Copies, passed)
            self.assertEqual(passed, phrases)
