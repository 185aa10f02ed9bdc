from pressroots.copies import Copies
from pressroots.errors import BadPlaces
from pressroots.ladders import Ladder
from tests.helper import HUGE, PressCase
from tests.presses import (
    LONG_LADDERS, MANY_LADDERS, SMALL_LADDERS, SOME_LADDERS, plain_blocks, plain_chain, plain_ladder_text,
    plain_ladder_trail, plain_open)

# The example of the interface: the root [0] of "aaaa".
EXAMPLE = (4, [[(0, None)], [(0, None), (1, None)], [(0, "a"), (1, "a"), (2, 0), (3, 0)]])
WALKED = SMALL_LADDERS[::4] + SOME_LADDERS + LONG_LADDERS
OUTSIDE = [-1, -2, -128, -HUGE, HUGE, 128]


class LadderWalkTest(PressCase):
    def test_examples(self):
        ladder = Ladder(*EXAMPLE)
        self.assertEqual(ladder.trail(3), [(0, 3), (1, 3), (2, 3), (2, 0)])
        self.assertEqual(ladder.copies().phrases, (("put", "a"), ("put", "a"), ("copy", 0, 1), ("copy", 0, 1)))
        self.assertEqual(ladder.verdict(), ("text", "aaaa"))
        self.assertEqual(ladder.opened(), [[0], [0, 1], [0, 1]])
        self.assertEqual(ladder.facts(), [("length", 4), ("size", 4), ("root", 4), ("steps", 3)])
        # A closed block of level 0 reads across the border of two open ones.
        ladder = Ladder(7, [[(0, None), (1, None), (2, 1), (3, 2)], [(0, "a"), (1, "b"), (2, "c"), (3, 1)]])
        self.assertEqual(ladder.text(), "abcbbcc")
        self.assertEqual(ladder.trail(5), [(0, 5), (0, 2), (1, 2)])
        self.assertEqual(ladder.trail(6), [(0, 6), (0, 2), (1, 2)])
        self.assertEqual(ladder.trail(3), [(0, 3), (1, 3), (1, 1)])
        self.assertEqual(str(ladder.copies()), "a b c 1+1 1+2 2+1")
        self.assertEqual(ladder.opened(), [[0, 1], [0, 1, 2]])
        self.assertEqual(ladder.size(), 6)

    def test_trails_against_a_plain_walk(self):
        for length, levels in WALKED:
            ladder = Ladder(length, levels)
            for position in range(length):
                self.assertEqual(ladder.trail(position), plain_ladder_trail(length, levels, position))

    def test_the_number_of_steps(self):
        for length, levels in WALKED:
            ladder = Ladder(length, levels)
            steps = [len(ladder.trail(position)) - 1 for position in range(length)]
            self.assertLessEqual(max(steps), 2 * (len(levels) - 1) + 1)
            self.assertEqual(ladder.facts()[3], ("steps", max(steps)))
        # Each level of this ladder needs two steps.
        ladder = Ladder(2, [[(0, "a"), (1, 0)]])
        self.assertEqual(ladder.facts()[3], ("steps", 1))
        ladder = Ladder(4, [[(0, None), (1, 0)], [(0, "a"), (1, 0)]])
        self.assertEqual(ladder.trail(3), [(0, 3), (0, 1), (1, 1), (1, 0)])
        self.assertEqual(ladder.facts()[3], ("steps", 3))

    def test_texts_letters_and_lengths(self):
        for length, levels in MANY_LADDERS:
            ladder = Ladder(length, levels)
            text = plain_ladder_text(length, levels)
            self.assertEqual(ladder.text(), text)
            self.assertEqual(ladder.verdict(), ("text", text))
            self.assertEqual(ladder.length(), length)
            for position in range(0, length, 1 + length // 7):
                self.assertEqual(ladder.letter(position), text[position])

    def test_stretches(self):
        for length, levels in SMALL_LADDERS[::5] + SOME_LADDERS[::4] + LONG_LADDERS[::6]:
            ladder = Ladder(length, levels)
            text = ladder.text()
            step = 1 + length // 12
            for start in range(0, length, step):
                for stop in list(range(start + 1, length + 1, step)) + [length]:
                    self.assertEqual(ladder.stretch(start, stop), text[start:stop])

    def test_positions_that_are_not_in_the_text(self):
        for length, levels in SMALL_LADDERS[::50] + SOME_LADDERS[::9] + LONG_LADDERS:
            ladder = Ladder(length, levels)
            for position in OUTSIDE + [length, length + 1]:
                self.assertRaises(BadPlaces, ladder.trail, position)
                self.assertRaises(BadPlaces, ladder.letter, position)

    def test_stretches_that_do_not_lie_in_the_text(self):
        for length, levels in SMALL_LADDERS[::50] + SOME_LADDERS[::9] + LONG_LADDERS:
            ladder = Ladder(length, levels)
            for start, stop in [
                    (0, 0), (length, length), (-1, 1), (-1, 0), (-1, length), (0, length + 1), (length, length + 1),
                    (1, 0), (length, 0), (length - 1, length - 1), (-HUGE, HUGE), (0, HUGE), (-HUGE, length),
                    (HUGE, HUGE + 1), (HUGE, 0), (0, -HUGE), (-length, -length + 1), (0, -1), (length + 1, length + 2)]:
                self.assertRaises(BadPlaces, ladder.stretch, start, stop)
            self.assertEqual(ladder.stretch(0, length), ladder.text())
            self.assertEqual(ladder.stretch(length - 1, length), ladder.text()[-1])

    def test_the_size(self):
        for length, levels in MANY_LADDERS:
            ladder = Ladder(length, levels)
            closed = [entry for level in levels for _, entry in level if isinstance(entry, int)]
            letters = [entry for _, entry in levels[-1] if isinstance(entry, str)]
            self.assertEqual(ladder.size(), len(closed) + len(letters))
            # The blocks of level 0, and for each open block above the last level its halves less 1.
            halves = 0
            for level in range(len(levels) - 1):
                kept = {block for block, _ in levels[level + 1]}
                for block in plain_open(levels, level):
                    halves += len(kept & {2 * block, 2 * block + 1}) - 1
            self.assertEqual(ladder.size(), len(levels[0]) + halves)

    def test_the_copies(self):
        for length, levels in MANY_LADDERS:
            ladder = Ladder(length, levels)
            placed = []
            for level, pairs in enumerate(levels):
                blocks = plain_blocks(length, levels, level)
                for block, entry in pairs:
                    start, stop = blocks[block]
                    if isinstance(entry, str):
                        placed.append((start, stop, ("put", entry)))
                    elif entry is not None:
                        placed.append((start, stop, ("copy", entry, stop - start)))
            placed.sort()
            copies = ladder.copies()
            self.assertIs(type(copies), Copies)
            self.assertEqual(list(copies), [phrase for _, _, phrase in placed])
            self.assertEqual(copies.spans(), [(start, stop) for start, stop, _ in placed])
            self.assertEqual(copies.size(), ladder.size())
            self.assertEqual(copies.text(), ladder.text())
            self.assertEqual(ladder.root(), copies.ends())

    def test_the_depths(self):
        for length, levels in WALKED:
            phrases = list(Ladder(length, levels).copies())
            for position in range(0, length, 1 + length // 9):
                self.assertLessEqual(len(plain_chain(phrases, position)) - 1, len(levels))

    def test_the_facts(self):
        for length, levels in WALKED:
            ladder = Ladder(length, levels)
            steps = max(len(plain_ladder_trail(length, levels, position)) - 1 for position in range(length))
            self.assertEqual(ladder.facts(), [
                ("length", length), ("size", ladder.size()), ("root", ladder.size()), ("steps", steps)])

    def test_the_open_blocks(self):
        for length, levels in MANY_LADDERS:
            opened = Ladder(length, levels).opened()
            self.assertEqual(opened, [plain_open(levels, level) for level in range(len(levels))])
            self.assertEqual({type(blocks) for blocks in opened}, {list})

    def test_one_position(self):
        for height in range(8):
            ladder = Ladder(1, [[(0, None)]] * height + [[(0, "q")]])
            self.assertEqual(ladder.facts(), [("length", 1), ("size", 1), ("root", 1), ("steps", height)])
            self.assertEqual(ladder.copies().phrases, (("put", "q"),))
            self.assertEqual(ladder.trail(0), [(level, 0) for level in range(height + 1)])
            self.assertEqual(ladder.opened(), [[0]] * (height + 1))

    def test_the_kinds_of_values(self):
        ladder = Ladder(*EXAMPLE)
        self.assertEqual([type(pair) for pair in ladder.trail(3)], [tuple] * 4)
        self.assertEqual({type(item) for pair in ladder.trail(3) for item in pair}, {int})
        self.assertIs(type(ladder.stretch(0, 2)), str)
        self.assertIs(type(ladder.verdict()), tuple)
        self.assertEqual([type(ladder.length()), type(ladder.size())], [int, int])

    def test_new_lists(self):
        for length, levels in (EXAMPLE, SOME_LADDERS[40], LONG_LADDERS[9]):
            ladder = Ladder(length, levels)
            for ask in (lambda: ladder.trail(length - 1), ladder.opened, ladder.root, ladder.facts):
                self.see_new_lists(ask)
            wanted = [list(blocks) for blocks in ladder.opened()]
            for blocks in ladder.opened():
                blocks.append(7)
                blocks[0] = 7
            self.assertEqual(ladder.opened(), wanted)
