from pressroots.copies import Copies
from pressroots.errors import BadLine
from tests.helper import HUGE, PressCase
from tests.presses import LONG_PHRASES, MANY_PHRASES

# Each of these is refused as a word of a line, wherever it stands.
WRONG_WORDS = [
    "", "A", "Z", "$", "7", "0", "12", "-", "+", "++", "1+", "+1", "+0", "0+", "0+1+1", "0++1", "+0+1", "0+1+",
    "-0+1", "-1+1", "0+-1", "0-1", "0+0", "1+0", "00+1", "01+1", "0+01", "0+001", "000+1", "0000+1", "0+0001",
    "ab", "aa", "zz", "a+1", "1+a", "0+a", "a+b", "0x0+1", "0+1a", "a0+1", "1_0+1", "0+1_0", "1e0+1", "0.0+1",
    "0+1.0", "\t", "\n", "a\t", "\ta", "a\n", "\na", "0+1\n", "\n0+1", "0\n+1", "0+\n1", "0+1\t", "\t0+1", "0\t+1",
    "0+\t1", "a\tb", "a\nb", "0+1\t0+1", "'a'", '"a"', "a,", "0,1", "(0+1)", "0*1", "\\", "~", "1" * 5000 + "+1",
    "0+" + "1" * 5000, "0" * 5000 + "+1", "0+" + "0" * 4999 + "1", "9" * 700, "1000+1", "0+1000", "0+129",
    "128+1", "0+999", "999+1", str(HUGE) + "+1", "0+" + str(HUGE), "a" * 128,
]


class WrittenFormTest(PressCase):
    def refuse_line(self, line):
        self.refuse(BadLine, Copies.read, line, 0)

    def test_examples(self):
        for phrases, line in (
                ([("put", "a"), ("put", "b"), ("copy", 0, 5)], "a b 0+5"),
                ([("put", "z")], "z"), ([("copy", 0, 1)], "0+1"), ([("copy", 0, 128)], "0+128"),
                ([("copy", 127, 1), ("copy", 0, 127)], "127+1 0+127"),
                ([("put", "a")] * 3, "a a a"), ([("copy", 10, 20), ("copy", 0, 10)], "10+20 0+10")):
            self.assertEqual(str(Copies(phrases)), line)
            self.assertEqual(Copies.read(line).phrases, tuple(phrases))
            self.assertIs(type(Copies.read(line)), Copies)

    def test_there_and_back(self):
        lines = {}
        for phrases in MANY_PHRASES:
            press = Copies(phrases)
            line = str(press)
            self.assertIs(type(line), str)
            words = [phrase[1] if phrase[0] == "put" else "{}+{}".format(*phrase[1:]) for phrase in phrases]
            self.assertEqual(line, " ".join(words))
            self.assertEqual(Copies.read(line).phrases, press.phrases)
            self.assertEqual(Copies.read(line).verdict(), press.verdict())
            self.assertEqual(f"{press}", line)
            self.assertEqual(lines.setdefault(line, phrases), phrases)

    def test_a_wrong_word_at_each_place(self):
        for word in WRONG_WORDS:
            self.refuse_line(word)
            self.refuse_line(word + " a")
            self.refuse_line("a " + word)
            self.refuse_line("a 0+1 " + word + " b 1+2")

    def test_the_empty_line_and_spaces(self):
        for line in ("", " ", "  ", " a", "a ", " a ", "a  b", "a   b", "0+1 ", " 0+1", "a  0+1", "0 +1", "0+ 1",
                     "a b  ", "  a b", "a\n", "\na", "a b\n", "a\tb", "a\t b", "a \n"):
            self.refuse_line(line)

    def test_presses_that_are_refused(self):
        for line in ("1+1", "a 2+1", "a 2+2", "0+2 3+1", "0+129", "0+128 a", "0+1 0+128", "a 0+0", "127+2", "127+1"):
            self.refuse_line(line)
        for phrases in LONG_PHRASES:
            line = str(Copies(phrases))
            self.refuse_line(line + " a")
            self.refuse_line("0+1 " + line)
        self.refuse_line(" ".join(["a"] * 129))
        self.refuse_line(" ".join(["a"] * 100000))
        self.refuse_line(" ".join(["0+999"] * 1000))

    def test_128_positions_are_right(self):
        for line, length in (("0+128", 128), ("a 0+127", 128), (" ".join(["a"] * 128), 128), ("0+127", 127),
                             ("1+127 z", 128), ("127+1 0+127", 128), ("0+100 100+28", 128)):
            press = Copies.read(line)
            self.assertEqual(press.length(), length)
            self.assertEqual(str(press), line)

    def test_a_press_with_a_ring_is_read(self):
        press = Copies.read("a 2+1 1+1")
        self.assertEqual(press.verdict(), ("ring", [1, 2]))
        self.assertEqual(str(press), "a 2+1 1+1")

    def test_no_other_short_string_is_read(self):
        signs = "a01+ z\nA-"
        right = {str(Copies(phrases)) for phrases in MANY_PHRASES}
        for line in [x + y + z for x in signs for y in signs for z in signs]:
            try:
                press = Copies.read(line)
            except BadLine as error:
                self.assertEqual(error.index, 0)
                self.assertNotIn(line, right)
            else:
                self.assertEqual(str(press), line)
