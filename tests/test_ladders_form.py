from pressroots.errors import BadPress, TooLong
from pressroots.ladders import Ladder
from pressroots.press import Press
from tests.helper import HUGE, PressCase, spots
from tests.presses import LONG_LADDERS, MANY_LADDERS, SMALL_LADDERS, SOME_LADDERS, WRONG_LETTERS, plain_ladder_fault

# Two levels with an open block, a closed one and one that reaches across a border of blocks.
GOOD = (7, [[(0, None), (1, None), (2, 1), (3, 2)], [(0, "a"), (1, "b"), (2, "c"), (3, 1)]])


def one_block(length):
    """Return a ladder of one level with a letter for each position."""
    return (length, [[(place, "a") for place in range(length)]])


def changed(levels, level, at, pair):
    """Return levels with another pair at one place."""
    pairs = levels[level]
    return levels[:level] + [pairs[:at] + [pair] + pairs[at + 1:]] + levels[level + 1:]


class LadderCase(PressCase):
    def refuse_form(self, length, levels, index):
        given = [list(level) for level in levels]
        self.refuse(BadPress, lambda levels: Ladder(length, levels), levels, index)
        self.assertEqual(levels, given)


class LadderFormTest(LadderCase):
    def test_the_attribute(self):
        for length, levels in MANY_LADDERS:
            ladder = Ladder(length, levels)
            self.assertIsInstance(ladder, Press)
            self.assertEqual(ladder.levels, tuple(tuple(level) for level in levels))
            self.assertIs(type(ladder.levels), tuple)
            self.assertEqual({type(level) for level in ladder.levels}, {tuple})

    def test_lengths(self):
        for length in (1, 2, 127, 128):
            self.assertEqual(Ladder(*one_block(length)).length(), length)
        for length in (129, 130, 256, HUGE, 10 ** 5000):
            for levels in ([], [[]], one_block(128)[1], one_block(129)[1], [[(0, None)]] * 9, [[(7, "B")]]):
                self.assertRaises(TooLong, Ladder, length, levels)
        for length in (0, -1, -128, -HUGE):
            for levels in ([], [[]], [[(0, "a")]], one_block(128)[1], [[(0, None)]] * 9, [[]] * 9):
                self.refuse_form(length, levels, 0)

    def test_the_number_of_levels(self):
        for length in (1, 2, 127, 128):
            self.refuse_form(length, [], 0)
            for many in (9, 10, 100):
                self.refuse_form(length, [[(0, None)]] * many, 8)
                self.refuse_form(length, [[]] * many, 8)
                self.refuse_form(length, [[(0, "B")]] * many, 8)
        for many in range(1, 9):
            levels = [[(0, None)]] * (many - 1) + [[(0, "z")]]
            self.assertEqual(Ladder(1, levels).text(), "z")
        self.refuse_form(1, [[(0, None)]] * 8 + [[(0, "z")]], 8)

    def test_eight_levels_of_128_letters(self):
        levels = [[(block, None) for block in range(2 ** level)] for level in range(7)]
        levels.append([(block, "ab"[block % 2]) for block in range(128)])
        self.assertEqual(Ladder(128, levels).text(), "ab" * 64)
        self.refuse_form(127, levels, 7)
        self.refuse_form(128, [levels[0]] + levels, 8)
        # With a level less, a block of level 0 has half as many positions, and two blocks are kept.
        self.refuse_form(128, levels[:6] + [levels[7]], 0)

    def test_the_level_for_a_length(self):
        for length, levels in SMALL_LADDERS[::5] + SOME_LADDERS[::9]:
            for other in range(1, 40):
                fault = plain_ladder_fault(other, levels)
                if fault is None:
                    self.assertEqual(Ladder(other, levels).length(), other)
                else:
                    self.refuse_form(other, levels, fault)

    def test_a_pair_left_out_doubled_or_moved(self):
        for length, levels in SMALL_LADDERS[::7] + SOME_LADDERS[::4] + LONG_LADDERS[::3] + [GOOD]:
            for level, pairs in enumerate(levels):
                if not pairs:
                    continue
                for at in spots(pairs):
                    block, entry = pairs[at]
                    for other in (
                            pairs[:at] + pairs[at + 1:], pairs[:at] + [pairs[at]] + pairs[at:],
                            pairs[:at] + [(block + 1000, entry)] + pairs[at + 1:],
                            pairs[:at] + [(-1 - block, entry)] + pairs[at + 1:],
                            pairs[:at] + [(HUGE, entry)] + pairs[at + 1:],
                            pairs[:at] + [(-HUGE, entry)] + pairs[at + 1:],
                            pairs + [(HUGE, entry)], [(-1, entry)] + pairs, pairs + [(pairs[-1][0] + 1, entry)]):
                        wrong = levels[:level] + [other] + levels[level + 1:]
                        self.assertEqual(plain_ladder_fault(length, wrong), level)
                        self.refuse_form(length, wrong, level)
                self.refuse_form(length, levels[:level] + [[]] + levels[level + 1:], level)
                if len(pairs) > 1:
                    self.refuse_form(length, levels[:level] + [pairs[::-1]] + levels[level + 1:], level)
                    exchanged = [pairs[1], pairs[0]] + pairs[2:]
                    self.refuse_form(length, levels[:level] + [exchanged] + levels[level + 1:], level)

    def test_blocks_that_are_not_kept(self):
        length, levels = GOOD
        # Block 2 of level 0 is closed, so that its halves are not kept on level 1.
        for block in (4, 5, 6):
            self.refuse_form(length, [levels[0], levels[1] + [(block, "a")]], 1)
        # The second half of a block that is open must begin inside the text.
        self.assertEqual(Ladder(3, [[(0, None), (1, None)], [(0, "a"), (1, "b"), (2, "c")]]).text(), "abc")
        self.refuse_form(3, [[(0, None), (1, None)], [(0, "a"), (1, "b"), (2, "c"), (3, "d")]], 1)
        self.refuse_form(3, [[(0, None), (1, None)], [(0, "a"), (1, "b"), (2, "c"), (3, 0)]], 1)
        self.refuse_form(4, [[(0, None), (1, None)], [(0, "a"), (1, "b"), (2, "c")]], 1)

    def test_wrong_entries(self):
        for length, levels in SMALL_LADDERS[::7] + SOME_LADDERS[::4] + LONG_LADDERS[::3] + [GOOD]:
            last = len(levels) - 1
            for level, pairs in enumerate(levels):
                for at in spots(pairs) if pairs else []:
                    block = pairs[at][0]
                    wrong = [None] if level == last else ["a", "z"]
                    wrong += WRONG_LETTERS + [-1, -2, -HUGE, length, length + 1, HUGE]
                    for entry in wrong:
                        self.refuse_form(length, changed(levels, level, at, (block, entry)), level)

    def test_the_starts_of_closed_blocks(self):
        for length, levels in SMALL_LADDERS[::7] + SOME_LADDERS[::4] + [GOOD]:
            for level, pairs in enumerate(levels):
                for at, (block, entry) in enumerate(pairs):
                    if isinstance(entry, int):
                        for start in list(range(-3, length + 3)) + [HUGE, -HUGE]:
                            other = changed(levels, level, at, (block, start))
                            fault = plain_ladder_fault(length, other)
                            if fault is None:
                                self.assertEqual(Ladder(length, other).levels[level][at], (block, start))
                            else:
                                self.refuse_form(length, other, fault)

    def test_the_last_start_that_fits_and_one_more(self):
        # The last block has one position, so that it may begin at each position of the open blocks.
        first = [[(0, None), (1, None), (2, None), (3, 5)], [(place, "a") for place in range(6)]]
        for start in range(6):
            Ladder(7, changed(first, 0, 3, (3, start)))
        for start in (6, 7, 8, HUGE, -1):
            self.refuse_form(7, changed(first, 0, 3, (3, start)), 0)
        # With 8 positions the same block has two of them.
        for start in range(5):
            Ladder(8, changed(first, 0, 3, (3, start)))
        for start in (5, 6, 7, 8, HUGE, -1):
            self.refuse_form(8, changed(first, 0, 3, (3, start)), 0)

    def test_stretches_at_closed_blocks_and_blocks_that_are_not_kept(self):
        # Block 1 is closed; block 2 may read from 0, but not from any stretch that touches block 1.
        base = [[(0, None), (1, 0), (2, 0)], [(0, "a"), (1, "b")]]
        self.assertEqual(Ladder(6, base).text(), "ababab")
        for start in (1, 2, 3, 4):
            self.refuse_form(6, changed(base, 0, 2, (2, start)), 0)
            self.refuse_form(6, changed(base, 0, 1, (1, start)), 0)
        # On level 1 the blocks 2 to 5 are not kept.
        lower = [[(0, None), (1, 0), (2, 0)], [(0, "a"), (1, 0)]]
        self.assertEqual(Ladder(6, lower).text(), "aaaaaa")
        for start in (1, 2, 3, 4, 5):
            self.refuse_form(6, changed(lower, 1, 1, (1, start)), 1)
        # A block is not read from itself, nor two blocks from each other.
        self.refuse_form(1, [[(0, 0)]], 0)
        self.refuse_form(2, [[(0, 1), (1, 0)]], 0)
        self.refuse_form(4, [[(0, 0)], []], 0)
        self.refuse_form(4, [[(0, 2), (1, 0)], []], 0)

    def test_every_small_list_of_entries(self):
        entries = [None, "a", 0, 1, 2]
        for length in (1, 2, 3):
            for first in entries:
                for second in entries:
                    for third in entries:
                        blocks = [(0, first), (1, second), (2, third)]
                        for levels in ([blocks[:length]], [blocks[:(length + 1) // 2], blocks[:length]],
                                       [blocks[:(length + 1) // 2], [(0, "a"), (1, second), (2, third)][:length]],
                                       [[(0, None), (1, second)][:(length + 1) // 2], blocks[:length]]):
                            fault = plain_ladder_fault(length, levels)
                            if fault is None:
                                self.assertEqual(Ladder(length, levels).length(), length)
                            else:
                                self.refuse_form(length, levels, fault)

    def test_two_faults_on_unlike_levels(self):
        for length, levels in SOME_LADDERS[::5] + LONG_LADDERS[::4] + [GOOD]:
            for level, pairs in enumerate(levels):
                if pairs:
                    below = [list(one) for one in levels]
                    below[level] = pairs[:-1] + [(pairs[-1][0], -1)]
                    for lower in range(level + 1, len(levels)):
                        below[lower] = [(0, "B"), (0, None)]
                        self.refuse_form(length, below, level)

    def test_each_ladder_is_as_right_as_a_plain_walk_says(self):
        for length, levels in SMALL_LADDERS[::3] + SOME_LADDERS[::2]:
            for level, pairs in enumerate(levels):
                for at, (block, entry) in enumerate(pairs):
                    for other in (None, "b", 0, 1, length - 1):
                        wrong = changed(levels, level, at, (block, other))
                        fault = plain_ladder_fault(length, wrong)
                        if fault is None:
                            Ladder(length, wrong)
                        else:
                            self.refuse_form(length, wrong, fault)

    def test_lists_that_are_changed_later_change_no_ladder(self):
        for length, levels in SMALL_LADDERS[::9] + SOME_LADDERS[::5]:
            passed = [list(level) for level in levels]
            ladder = Ladder(length, passed)
            self.assertEqual(passed, levels)
            wanted = (ladder.levels, ladder.text(), ladder.size(), ladder.facts(), ladder.opened())
            for level in passed:
                level.append((0, "z"))
                level[0] = (0, "z")
            self.assertEqual((ladder.levels, ladder.text(), ladder.size(), ladder.facts(), ladder.opened()), wanted)
            for level in passed:
                level.clear()
            passed.clear()
            self.assertEqual((ladder.levels, ladder.text(), ladder.size(), ladder.facts(), ladder.opened()), wanted)
