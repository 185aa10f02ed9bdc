from pressroots.copies import Copies
from pressroots.desk import Desk
from pressroots.edits import cut, deleted, inserted, recoded, replaced
from pressroots.errors import BadLine, BadName, BadScript, Full, NothingToUndo, NoShelf, PressError
from pressroots.makers import pressed, quickened
from tests.desks import COMMANDS, WRONG_NAMES, DeskCase, filled, shown, takes
from tests.helper import HUGE
from tests.presses import numbers

# A line for each reason for which a line of a desk is refused.
WRONG_LINES = [
    "", " ", "x", "x ", " a", "  a", "x  a", "x a ", " x a", "x\ta", "x\na", "X a", "xx1 a", "abcdefghijklm a", "x A",
    "x 0+1", "x a 0+0", "x a 1+1", "x a 0+128", "x a 00+1", "x a 0+01", "x a -0+1", "x a 0 1", "x a  b", "x ab", "xa",
    "x a\n", "x a,b", "x a 0+1 +", "x a +1", "x a 1+", "x 1+1 0+1", "x a 2+1 1+1", "x 0+128", "x a 0+" + "1" * 40,
    "1 a", "a", "0+1", "x xx a", "x " + "a " * 128 + "a", "x a 0+1000"]


class RunAllTest(DeskCase):
    def refuse_script(self, desk, commands, index):
        """See that a list of commands is refused and that the desk is what it was before."""
        before = shown(desk)
        given = list(commands)
        with self.subTest(commands=commands):
            with self.assertRaises(BadScript) as caught:
                desk.run_all(commands)
            self.assertEqual(caught.exception.index, index)
            self.assertIs(type(caught.exception.index), int)
        self.assertEqual(shown(desk), before)
        self.assertEqual(commands, given)

    def test_the_results(self):
        desk = Desk()
        self.assertEqual(desk.run_all([]), [])
        told = desk.run_all([("put", "x", "abab"), ("power", "y", "x", 2), ("find", "y", "ba"), ("text", "x"),
                             ("letter", "y", 7), ("drop", "x"), ("rating", "y"), ("root", "y")])
        self.assertEqual(told, [3, 4, [1, 3, 5], "abab", ("b", 2), 3, (4, 2), [0, 1, 3, 7]])
        self.assertIs(type(told), list)
        self.assertEqual(desk.names, ["y"])

    def test_an_error_at_each_place(self):
        right = [("put", "z", "abc"), ("insert", "x", 0, "q"), ("text", "z"), ("drop", "y"), ("mirror", "y", "z")]
        wrong = [("put", "Z", "abc"), ("put", "z", "B"), ("text", "w"), ("nothing",), ("put", "z"), ("delete", "x", 99),
                 ("power", "z", "x", 0), ("power", "z", "x", HUGE), ("put", "z", "abcdefghijklmnopqrstuvwxyz"),
                 ("find", "x", ""), ("letter", "x", HUGE)]
        for command in wrong:
            for at in range(len(right) + 1):
                desk = filled(room=20)
                desk.run(("put", "o", "a"))
                desk.undo()
                self.refuse_script(desk, right[:at] + [command] + right[at:], at)
                self.refuse_script(desk, right[:at] + [command, ("text", "w")], at)
                # What can be taken back is what it was before, too.
                self.assertEqual(desk.undo(), 1)
                self.assertEqual(desk.names, ["x"])
                self.assertEqual(desk.undo(), 0)

    def test_too_short(self):
        desk = filled()
        self.refuse_script(desk, [("put", "o", "a"), ("delete", "o", 0)], 1)
        self.refuse_script(desk, [("delete", "y", 0), ("delete", "y", 0), ("delete", "y", 0)], 2)

    def test_commands_see_what_earlier_ones_have_changed(self):
        desk = Desk(room=6)
        self.assertEqual(desk.run_all([("put", "x", "abc"), ("drop", "x"), ("put", "y", "abcdef"), ("text", "y")]),
                         [3, 3, 6, "abcdef"])
        self.refuse_script(desk, [("text", "y"), ("put", "z", "a")], 1)
        self.refuse_script(desk, [("drop", "y"), ("put", "z", "abcdefg")], 1)
        self.assertEqual(desk.run_all([("drop", "y"), ("put", "z", "fedcba")]), [6, 6])
        self.refuse_script(desk, [("drop", "z"), ("text", "z")], 1)

    def test_no_command_and_questions_alone(self):
        desk = filled()
        many = 2
        for commands in ([], [("text", "x")], [("root", "x"), ("find", "y", "c"), ("rating", "y")]):
            desk.run_all(commands)
            self.assertEqual(takes(self.copy(desk)), 0)
        self.assertEqual(takes(desk), many)

    def copy(self, desk):
        """Return a desk of the same lines, which has no change to take back."""
        return Desk.read(desk.written(), room=desk.room)


class UndoTest(DeskCase):
    def test_each_change_is_taken_back(self):
        desk = Desk()
        seen = [shown(desk)]
        commands = [("put", "x", "abab"), ("put", "y", "ccc"), ("join", "z", "x", "y"), ("power", "z", "z", 2),
                    ("mirror", "x", "z"), ("recode", "x", "x", {"a": "b"}), ("cut", "y", "z", 1, 4),
                    ("replace", "y", 0, "k"), ("insert", "y", 3, "l"), ("delete", "y", 1), ("quicken", "x"),
                    ("drop", "x"), ("drop", "z"), ("put", "x", "q")]
        for command in commands:
            desk.run(command)
            seen.append(shown(desk))
        for many in range(len(commands) - 1, -1, -1):
            self.assertEqual(desk.undo(), many)
            self.assertEqual(shown(desk), seen[many])
        self.assertRaises(NothingToUndo, desk.undo)
        self.assertRaises(NothingToUndo, desk.undo)
        self.assertEqual(shown(desk), seen[0])

    def test_changes_that_leave_the_shelves_as_they_were(self):
        desk = filled()
        before = shown(desk)
        for command in (("put", "x", "abab"), ("power", "x", "x", 1), ("recode", "x", "x", {}),
                        ("replace", "x", 0, "a")):
            desk.run(command)
        desk.run(("put", "x", "abab"))
        self.assertEqual(shown(desk), before)
        self.assertEqual(takes(desk), 7)

    def test_what_counts_as_no_change(self):
        desk = filled()
        for word in ("text", "letter", "find", "root", "rating"):
            desk.run((word,) + COMMANDS[word])
        desk.room = 100
        desk.change_room(50)
        for command in (("put", "Z", "a"), ("text", "w"), ("nothing",), ("delete", "x", 9), ("drop", "w")):
            self.assertRaises(PressError, desk.run, command)
        self.assertRaises(Full, desk.change_room, 0)
        desk.run_all([])
        desk.run_all([("text", "x"), ("rating", "x")])
        self.assertRaises(BadScript, desk.run_all, [("put", "z", "a"), ("put", "z", "")])
        self.assertEqual(desk.undo(), 1)
        self.assertEqual(desk.names, ["x"])
        # What was taken back is no change either: it is not done again.
        self.assertEqual(desk.undo(), 0)
        self.assertRaises(NothingToUndo, desk.undo)
        self.assertEqual(desk.room, 50)

    def test_all_changes_of_one_list_count_as_one(self):
        for many in (1, 2, 5):
            desk = filled()
            before = shown(desk)
            commands = [("text", "x")] + [("put", name, "q" + name) for name in "abcde"[:many]] + [("text", "y")]
            desk.run_all(commands)
            after = shown(desk)
            desk.run(("drop", "x"))
            desk.run_all([("put", "x", "v"), ("put", "x", "w")])
            self.assertEqual(desk.undo(), 4)
            self.assertEqual(desk.undo(), 3)
            self.assertEqual(shown(desk), after)
            self.assertEqual(desk.undo(), 2)
            self.assertEqual(shown(desk), before)
            self.assertEqual(desk.undo(), 1)
        # Also if they leave the shelves as they were.
        desk = filled()
        desk.run_all([("put", "z", "a"), ("drop", "z")])
        self.assertEqual(desk.undo(), 2)
        self.assertEqual(desk.names, ["x", "y"])

    def test_too_little_room(self):
        desk = Desk()
        desk.run(("put", "x", "abcdef"))
        desk.run(("put", "x", "a"))
        desk.run(("put", "y", "ab"))
        self.assertEqual(desk.undo(), 2)
        desk.room = 5
        for _ in range(2):
            before = shown(desk)
            self.assertRaises(Full, desk.undo)
            self.assertEqual(shown(desk), before)
        desk.room = 6
        self.assertEqual(desk.undo(), 1)
        self.assertEqual((desk.written(), desk.room), (["x a b c d e f"], 6))
        self.assertEqual(desk.undo(), 0)
        self.assertEqual(shown(desk), ([], 0, 6, [], []))

    def test_new_changes_behind_it(self):
        desk = filled()
        desk.undo()
        desk.run(("put", "w", "k"))
        self.assertEqual(desk.undo(), 1)
        self.assertEqual(desk.names, ["x"])

    def test_a_desk_that_was_read(self):
        desk = Desk.read(["x a b", "y c"])
        self.assertRaises(NothingToUndo, desk.undo)
        desk.run(("drop", "x"))
        self.assertEqual(desk.undo(), 0)
        self.assertEqual(desk.written(), ["x a b", "y c"])
        self.assertRaises(NothingToUndo, desk.undo)


class LinesTest(DeskCase):
    def refuse_lines(self, lines, index, **options):
        with self.subTest(lines=lines):
            with self.assertRaises(BadLine) as caught:
                Desk.read(lines, **options)
            self.assertEqual(caught.exception.index, index)
            self.assertIs(type(caught.exception.index), int)

    def test_there_and_back(self):
        desk = filled()
        for word in ("join", "power", "mirror", "recode", "cut"):
            desk.run((word, "z" + word) + COMMANDS[word][1:])
            again = Desk.read(desk.written())
            self.assertEqual(shown(again), shown(desk))
            self.assertEqual(shown(Desk.read(desk.written()[::-1])), shown(desk))
            self.assertEqual(again.room, 512)
        self.assertEqual(shown(Desk.read([])), shown(Desk()))
        self.assertEqual(Desk().written(), [])

    def test_lines_in_any_order(self):
        desk = Desk.read(["y c 0+2", "abcdefghijkl a", "x a b 0+2"], room=77)
        self.assertEqual(desk.written(), ["abcdefghijkl a", "x a b 0+2", "y c 0+2"])
        self.assertEqual((desk.names, desk.total, desk.room), (["abcdefghijkl", "x", "y"], 6, 77))
        self.assertIs(type(desk.press("y")), Copies)

    def test_presses_are_tidied(self):
        desk = Desk.read(["x a b c d 0+2 2+2", "y a 0+1 1+1 2+1"], room=7)
        self.assertEqual(desk.written(), ["x a b c d 0+4", "y a 0+3"])
        self.assertEqual(desk.total, 7)

    def test_each_wrong_line_at_each_place(self):
        right = ["a q", "b q 0+3", "c x y z"]
        for line in WRONG_LINES:
            for at in range(4):
                self.refuse_lines(right[:at] + [line] + right[at:], at)
                self.refuse_lines(right[:at] + [line, "", line] + right[at:], at)
        for name in WRONG_NAMES:
            self.refuse_lines(["a q", name + " a"], 1)

    def test_a_name_again(self):
        self.refuse_lines(["x a", "x a"], 1)
        self.refuse_lines(["x a", "y a", "z a", "y b"], 3)
        self.refuse_lines(["x a", "x b", "x c"], 1)
        self.refuse_lines(["x a", "y 0+1", "x a"], 1)

    def test_presses_with_a_ring(self):
        for form in ("0+1", "1+1 0+1", "a 1+1", "a 2+1 1+1 0+1", "0+128"):
            self.refuse_lines(["a q", "x " + form], 1)
            self.assertEqual(str(Copies.read(form)), form)

    def test_full_comes_behind_bad_lines(self):
        for room in (-1, -HUGE, 0, 2):
            self.refuse_lines(["x a b", "y c", ""], 2, room=room)
            self.assertRaises(Full, lambda room=room: Desk.read(["x a b", "y c"], room=room))
        self.assertEqual(Desk.read(["x a b", "y c"], room=3).room, 3)
        self.assertRaises(Full, lambda: Desk.read([], room=-1))
        self.assertEqual(Desk.read([], room=0).room, 0)
        lines = [name + " " + " ".join(["a"] * 128) for name in "abcd"]
        self.assertEqual(Desk.read(lines).total, 512)
        self.assertRaises(Full, Desk.read, lines + ["e a"])
        self.assertRaises(TypeError, Desk.read, lines, 512)

    def test_the_lines_stay_as_they_were(self):
        lines = ["y c", "x a b 0+1 1+1"]
        given = list(lines)
        desk = Desk.read(lines)
        self.assertEqual(lines, given)
        before = shown(desk)
        lines.clear()
        self.assertEqual(shown(desk), before)


class ModelTest(DeskCase):
    """Long runs of commands beside a plain dict of presses."""

    def made(self, shelves, command):
        """Return the press that a right change puts on its shelf."""
        word, items = command[0], command[1:]
        if word == "put":
            return pressed(items[1])
        if word == "join":
            return shelves[items[1]] + shelves[items[2]]
        if word in ("power", "mirror", "recode", "cut"):
            press = shelves[items[1]]
            return {"power": lambda: press * items[2], "mirror": lambda: -press,
                    "recode": lambda: recoded(press, items[2]), "cut": lambda: cut(press, items[2], items[3])}[word]()
        press = shelves[items[0]]
        return {"replace": lambda: replaced(press, *items[1:]), "insert": lambda: inserted(press, *items[1:]),
                "delete": lambda: deleted(press, *items[1:]), "quicken": lambda: quickened(press).copies()}[word]()

    def plain_run(self, shelves, room, command):
        """Return the shelves behind a change and its result, or the class of the error."""
        try:
            if command[0] == "drop":
                if command[1] not in shelves:
                    return NoShelf
                left = {name: press for name, press in shelves.items() if name != command[1]}
                return left, shelves[command[1]].size()
            if command[0] in ("put", "join", "power", "mirror", "recode", "cut") and command[1] == "E":
                return BadName
            press = self.made(shelves, command).tidied()
        except KeyError:
            return NoShelf
        except PressError as error:
            return type(error)
        left = {**shelves, command[1]: press}
        if sum(one.size() for one in left.values()) > room:
            return Full
        return left, press.size()

    def drawn(self, draw):
        """Return a command that is often right."""
        names = ["a", "b", "c", "d", "dd", "e" if next(draw) % 9 else "E"]
        new, name, other = (names[next(draw) % len(names)] for _ in range(3))
        position, stop = next(draw) % 7 - (next(draw) % 9 == 0), 1 + next(draw) % 9
        letter = "abcd"[next(draw) % 4] if next(draw) % 9 else "A"
        text = "abab" * (1 + next(draw) % 3) + letter
        return [
            ("put", new, text), ("put", new, text), ("join", new, name, other), ("power", new, name, next(draw) % 4),
            ("mirror", new, name), ("recode", new, name, {"a": letter}), ("cut", new, name, position, stop),
            ("replace", name, position, letter), ("insert", name, position, letter), ("delete", name, position),
            ("quicken", name), ("drop", name)][next(draw) % 12]

    def test_long_runs(self):
        done, refused = 0, {}
        for seed in range(12):
            draw = numbers(seed)
            room = (20, 45, 512)[seed % 3]
            desk, shelves, earlier = Desk(room=room), {}, []
            for _ in range(120):
                if next(draw) % 8 == 0 and earlier:
                    shelves = earlier.pop()
                    self.assertEqual(desk.undo(), len(earlier))
                else:
                    command = self.drawn(draw)
                    told = self.plain_run(shelves, room, command)
                    if isinstance(told, tuple):
                        earlier.append(shelves)
                        shelves = told[0]
                        self.assertEqual(desk.run(command), told[1], command)
                        done += 1
                    else:
                        refused[told.__name__] = refused.get(told.__name__, 0) + 1
                        self.refuse(desk, told, command)
                self.assertEqual(desk.written(), [name + " " + str(shelves[name]) for name in sorted(shelves)])
                self.assertEqual(desk.names, sorted(shelves))
                self.assertEqual(desk.total, sum(press.size() for press in shelves.values()))
                self.assertEqual(shown(Desk.read(desk.written(), room=room)), shown(desk))
            self.assertEqual(takes(desk), len(earlier))
        self.assertGreater(done, 400)
        self.assertGreater(len(refused), 6, refused)
