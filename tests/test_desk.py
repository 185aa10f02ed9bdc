from pressroots.copies import Copies
from pressroots.desk import Desk
from pressroots.edits import cut, deleted, inserted, recoded, replaced
from pressroots.errors import (
    BadCommand, BadCount, BadName, BadPlaces, BadScript, BadText, DeskError, Full, NoShelf, NothingToUndo, TooLong,
    TooShort)
from pressroots.floors import must_keep
from pressroots.makers import pressed, quickened
from pressroots.search import found
from tests.desks import COMMANDS, MAKING, WRONG_NAMES, DeskCase, filled, shown, takes
from tests.helper import HUGE, LETTERS, WRONG_TEXTS, fibonacci, mixed
from tests.presses import WRONG_LETTERS


class NewDeskTest(DeskCase):
    def test_a_new_desk(self):
        desk = Desk()
        self.assertEqual(shown(desk), ([], 0, 512, [], []))
        self.assertRaises(NothingToUndo, desk.undo)

    def test_the_room(self):
        for room in (0, 1, 511, 512, 513, HUGE):
            self.assertEqual(Desk(room=room).room, room)
        for room in (-1, -2, -HUGE):
            self.assertRaises(Full, lambda room=room: Desk(room=room))
        self.assertRaises(TypeError, Desk, 5)

    def test_setting_the_room(self):
        desk = filled()
        self.assertEqual(desk.total, 5)
        for room in (5, 6, 512, HUGE, 5):
            desk.room = room
            self.assertEqual(desk.room, room)
        for room in (4, 0, -1, -HUGE):
            with self.assertRaises(Full):
                desk.room = room
            self.assertEqual(desk.room, 5)
            self.assertRaises(Full, desk.change_room, room)
            self.assertEqual(desk.room, 5)
        empty = Desk(room=3)
        with self.assertRaises(Full):
            empty.room = -1
        empty.room = 0
        self.assertEqual(empty.room, 0)

    def test_changing_the_room(self):
        desk = filled(room=9)
        self.assertEqual(desk.change_room(5), 9)
        self.assertEqual(desk.change_room(HUGE), 5)
        self.assertEqual(desk.change_room(HUGE), HUGE)
        self.assertEqual(desk.room, HUGE)

    def test_names_and_totals(self):
        desk = Desk()
        for name in ("m", "b", "zz", "a", "abcdefghijkl", "ab"):
            desk.run(("put", name, "abab"))
        self.assertEqual(desk.names, ["a", "ab", "abcdefghijkl", "b", "m", "zz"])
        self.assertEqual(desk.total, 18)
        self.assertIs(type(desk.names), list)
        desk.names.append("q")
        desk.names.clear()
        self.assertEqual(len(desk.names), 6)
        for name in ("total", "names"):
            self.assertRaises(AttributeError, setattr, desk, name, 1)

    def test_a_press(self):
        desk = filled()
        self.assertIs(type(desk.press("x")), Copies)
        self.assertEqual(desk.press("x").phrases, pressed("abab").phrases)
        for name in WRONG_NAMES + ["z", "xx", "X"]:
            with self.assertRaises(NoShelf) as caught:
                desk.press(name)
            self.assertEqual(caught.exception.name, name)
            self.assertIs(type(caught.exception.name), str)

    def test_two_desks_do_not_know_of_each_other(self):
        first, second = Desk(), filled(room=40)
        before = shown(second)
        first.run(("put", "x", "qq"))
        first.run(("put", "w", "q"))
        first.room = 7
        self.assertEqual(shown(second), before)
        self.assertEqual(first.names, ["w", "x"])
        second.undo()
        second.run(("drop", "x"))
        self.assertEqual(first.names, ["w", "x"])
        self.assertEqual(first.run(("text", "x")), "qq")
        self.assertEqual(takes(first), 2)


class CommandTest(DeskCase):
    def test_unknown_words(self):
        desk = filled()
        for word in ("", "Put", "put ", " put", "undo", "names", "run", "x", "PUT", "puts", "pu", "text\n", "size"):
            for items in ((), ("x",), ("z", "abc"), ("z", "x", "y"), ("x", 0, "a"), ("z", "x", 0, 1)):
                self.refuse(desk, BadCommand, (word,) + items)

    def test_wrong_numbers_of_items(self):
        desk = filled()
        for word, items in COMMANDS.items():
            for many in range(7):
                if many != len(items):
                    self.refuse(desk, BadCommand, (word,) + (items + ("x", 0, "a", 1, 2))[:many])
                    # The number of items comes before what the items are.
                    self.refuse(desk, BadCommand, (word,) + ("B", "", -1, "", -1, -1)[:many])

    def test_new_names(self):
        desk = filled()
        for word in MAKING:
            for name in WRONG_NAMES:
                self.refuse(desk, BadName, (word, name) + COMMANDS[word][1:])
            for name in ("a", "z", "abcdefghijkl", LETTERS[-12:]):
                self.assertEqual(desk.run((word, name) + COMMANDS[word][1:]), desk.press(name).size())
            # An old name is taken as well.
            desk.run((word, "a") + COMMANDS[word][1:])

    def test_names_of_shelves(self):
        desk = filled()
        for word in COMMANDS:
            at = 1 if word in MAKING else 0
            for place in ([1, 2] if word == "join" else [] if word == "put" else [at]):
                for name in WRONG_NAMES + ["w", "xx", "xy"]:
                    items = COMMANDS[word][:place] + (name,) + COMMANDS[word][place + 1:]
                    self.refuse(desk, NoShelf, (word,) + items, name=name)

    def test_the_order_of_the_errors(self):
        desk = filled()
        long = mixed("ab", 128, 4)
        desk.run(("put", "l", long))
        desk.run(("put", "o", "a"))
        for command, error in (
                (("put", "A", ""), BadName), (("put", "a", ""), BadText), (("put", "x", "B"), BadText),
                (("join", "A", "w", "v"), BadName), (("join", "z", "w", "x"), NoShelf),
                (("join", "z", "x", "w"), NoShelf), (("join", "z", "l", "w"), NoShelf),
                (("join", "z", "l", "o"), TooLong), (("join", "l", "o", "l"), TooLong),
                (("power", "A", "w", 0), BadName), (("power", "z", "w", 0), NoShelf),
                (("power", "z", "l", 0), BadCount), (("power", "z", "l", -HUGE), BadCount),
                (("power", "z", "l", 2), TooLong),
                (("power", "z", "o", 129), TooLong), (("power", "z", "o", HUGE), TooLong),
                (("mirror", "A", "w"), BadName), (("mirror", "z", "w"), NoShelf),
                (("recode", "A", "w", {}), BadName), (("recode", "z", "w", {}), NoShelf),
                (("cut", "A", "w", 0, 0), BadName), (("cut", "z", "w", 0, 0), NoShelf),
                (("cut", "z", "x", 0, 0), BadPlaces), (("cut", "z", "x", 0, 5), BadPlaces),
                (("cut", "z", "x", -1, 2), BadPlaces),
                (("cut", "z", "x", -HUGE, HUGE), BadPlaces), (("cut", "z", "x", 2, 1), BadPlaces),
                (("replace", "w", -1, ""), NoShelf), (("replace", "x", -1, ""), BadPlaces),
                (("replace", "x", 4, "a"), BadPlaces), (("replace", "x", 3, "A"), BadText),
                (("insert", "w", -1, ""), NoShelf), (("insert", "x", 5, ""), BadPlaces),
                (("insert", "x", 4, ""), BadText), (("insert", "l", 129, "a"), BadPlaces),
                (("insert", "l", 128, "ab"), BadText),
                (("insert", "l", 128, "a"), TooLong), (("insert", "l", 0, "a"), TooLong),
                (("delete", "w", -1), NoShelf), (("delete", "x", 4), BadPlaces), (("delete", "o", 1), BadPlaces),
                (("delete", "o", 0), TooShort), (("delete", "o", -HUGE), BadPlaces),
                (("quicken", "w"), NoShelf), (("drop", "w"), NoShelf), (("text", "w"), NoShelf),
                (("letter", "w", -1), NoShelf), (("letter", "x", -1), BadPlaces), (("letter", "x", 4), BadPlaces),
                (("letter", "x", HUGE), BadPlaces), (("find", "w", ""), NoShelf), (("find", "x", ""), BadText),
                (("find", "x", "A"), BadText), (("root", "w"), NoShelf), (("rating", "w"), NoShelf)):
            self.refuse(desk, error, command)
        # The left one of two wrong shelves is told.
        self.refuse(desk, NoShelf, ("join", "z", "w", "v"), name="w")
        self.refuse(desk, NoShelf, ("join", "z", "x", "v"), name="v")

    def test_wrong_items(self):
        desk = filled()
        for text in WRONG_TEXTS:
            self.refuse(desk, BadText, ("put", "z", text))
            self.refuse(desk, BadText, ("find", "x", text))
        for letter in WRONG_LETTERS:
            self.refuse(desk, BadText, ("replace", "x", 0, letter))
            self.refuse(desk, BadText, ("insert", "x", 0, letter))
        for position in (-1, -HUGE, HUGE, 4, 5):
            self.refuse(desk, BadPlaces, ("replace", "x", position, "a"))
            self.refuse(desk, BadPlaces, ("delete", "x", position))
            self.refuse(desk, BadPlaces, ("letter", "x", position))
            if position != 4:
                self.refuse(desk, BadPlaces, ("insert", "x", position, "a"))

    def test_full_comes_last(self):
        desk = filled(room=5)
        for command, error in (
                (("put", "z", "B"), BadText), (("power", "z", "x", 0), BadCount), (("power", "z", "x", 33), TooLong),
                (("cut", "z", "x", 1, 1), BadPlaces), (("join", "z", "x", "w"), NoShelf),
                (("insert", "x", 0, "aa"), BadText), (("put", "Z", "a"), BadName)):
            self.refuse(desk, error, command)
        for command in (("put", "z", "a"), ("power", "z", "x", 2), ("mirror", "z", "y"), ("join", "x", "x", "x"),
                        ("insert", "x", 4, "q"), ("replace", "x", 3, "q"), ("put", "x", "abcd"),
                        ("cut", "z", "x", 0, 1)):
            self.refuse(desk, Full, command)

    def test_full_exactly_above_the_room(self):
        desk = Desk(room=4)
        self.assertEqual(desk.run(("put", "a", "abcd")), 4)
        self.refuse(desk, Full, ("put", "b", "a"))
        self.refuse(desk, Full, ("put", "a", "abcde"))
        # The new press stands in place of the old one of the shelf.
        self.assertEqual(desk.run(("put", "a", "bcde")), 4)
        self.assertEqual(desk.run(("put", "a", "abc")), 3)
        self.assertEqual(desk.run(("put", "b", "a")), 1)
        self.refuse(desk, Full, ("insert", "a", 0, "x"))
        self.refuse(desk, Full, ("put", "c", "a"))
        self.assertEqual(desk.run(("replace", "a", 0, "x")), 3)
        desk.room = 5
        self.assertEqual(desk.run(("insert", "a", 0, "y")), 4)
        self.assertEqual((desk.total, desk.room), (5, 5))
        nothing = Desk(room=0)
        self.refuse(nothing, Full, ("put", "a", "a"))

    def test_full_counts_the_tidied_press(self):
        for text in ("abcd" * 8, fibonacci(128), mixed("ab", 128, 1)):
            quick = quickened(pressed(text)).copies()
            self.assertLess(quick.tidied().size(), quick.size())
            self.assertLess(pressed(text).size(), quick.tidied().size())
            desk = Desk(room=quick.tidied().size() - 1)
            desk.run(("put", "x", text))
            self.refuse(desk, Full, ("quicken", "x"))
            desk.room = quick.tidied().size()
            self.assertEqual(desk.run(("quicken", "x")), desk.room)


class ChangeTest(DeskCase):
    def see(self, desk, command, press):
        """See that a change puts a press, tidied, on its shelf, and the other shelves stay."""
        name = command[1]
        others = [line for line in desk.written() if not line.startswith(name + " ")]
        wanted = press.tidied()
        told = desk.run(command)
        self.assertIs(type(told), int)
        self.assertEqual(told, len(wanted.phrases))
        self.assertEqual(desk.press(name).phrases, wanted.phrases)
        lines = others + [name + " " + str(wanted)]
        self.assertEqual(desk.written(), sorted(lines, key=lambda line: line.split(" ")[0]))
        self.assertEqual(desk.total, sum(desk.press(name).size() for name in desk.names))

    def test_examples(self):
        desk = Desk()
        self.assertEqual(desk.run(("put", "x", "abab")), 3)
        self.assertEqual(desk.run(("power", "y", "x", 2)), 4)
        self.assertEqual(desk.run(("find", "y", "ba")), [1, 3, 5])
        self.assertEqual(desk.total, 7)
        self.assertEqual(desk.written(), ["x a b 0+2", "y a b 0+2 0+4"])

    def test_each_change(self):
        for text in ("banana", "aaaa", "abcabcabc", fibonacci(40), mixed("abc", 60, 2), "z"):
            desk = filled()
            self.see(desk, ("put", "t", text), pressed(text))
            for name in ("t", "z", "x"):
                press = desk.press("t")
                self.see(desk, ("join", name, "t", "y"), press + desk.press("y"))
                self.see(desk, ("join", name, "y", "t"), desk.press("y") + desk.press("t"))
                self.see(desk, ("put", "t", text), pressed(text))
                self.see(desk, ("join", name, "t", "t"), desk.press("t") + desk.press("t"))
                self.see(desk, ("put", "t", text), pressed(text))
                for times in (1, 2):
                    self.see(desk, ("power", name, "t", times), desk.press("t") * times)
                    self.see(desk, ("put", "t", text), pressed(text))
                self.see(desk, ("mirror", name, "t"), -desk.press("t"))
                table = {"a": "b", "c": "q"}
                self.see(desk, ("recode", name, "t", table), recoded(desk.press("t"), table))
                size = desk.press("t").length()
                self.see(desk, ("cut", name, "t", size // 2, size), cut(desk.press("t"), size // 2, size))
                self.see(desk, ("put", "t", text), pressed(text))
            for position in sorted({0, len(text) // 2, len(text) - 1}):
                self.see(desk, ("replace", "t", position, "k"), replaced(desk.press("t"), position, "k"))
                self.see(desk, ("insert", "t", position, "l"), inserted(desk.press("t"), position, "l"))
                self.see(desk, ("insert", "t", desk.press("t").length(), "m"),
                         inserted(desk.press("t"), desk.press("t").length(), "m"))
                self.see(desk, ("quicken", "t"), quickened(desk.press("t")).copies())
                self.see(desk, ("delete", "t", position), deleted(desk.press("t"), position))

    def test_drop(self):
        desk = filled()
        self.assertEqual(desk.run(("drop", "x")), 3)
        self.assertEqual((desk.names, desk.total), (["y"], 2))
        self.refuse(desk, NoShelf, ("drop", "x"), name="x")
        self.assertEqual(desk.run(("drop", "y")), 2)
        self.assertEqual(shown(desk), ([], 0, 512, [], []))

    def test_presses_are_tidied(self):
        desk = Desk()
        desk.run(("put", "x", "abcd"))
        desk.run(("power", "x", "x", 2))
        # The two copies of the replaced press go on where the other one stops.
        self.assertEqual(desk.written(), ["x a b c d 0+4"])
        self.assertEqual(str(inserted(desk.press("x"), 4, "e")), "a b c d e 0+4")
        self.assertEqual(str(cut(desk.press("x"), 0, 8)), "a b c d 0+4")
        self.assertEqual(desk.run(("insert", "x", 6, "e")), 7)
        self.assertEqual(desk.run(("delete", "x", 6)), 5)
        self.assertEqual(desk.written(), ["x a b c d 0+4"])

    def test_questions(self):
        desk = filled()
        desk.run(("put", "z", "banana"))
        for name in desk.names:
            before = shown(desk)
            press = desk.press(name)
            text = press.text()
            self.assertEqual(desk.run(("text", name)), text)
            for position in range(len(text)):
                told = desk.run(("letter", name, position))
                self.assertEqual(told, (text[position], press.depths()[position]))
                self.assertEqual([type(told)] + [type(item) for item in told], [tuple, str, int])
            for word in ("a", "an", "na", "ab", "c", "cc", "q", "a" * 128, text):
                self.assertEqual(desk.run(("find", name, word)), [start for start, _ in found(press, word)])
            self.assertEqual(desk.run(("root", name)), press.root())
            self.assertEqual(desk.run(("rating", name)), (press.size(), must_keep(text)))
            self.assertEqual(shown(desk), before)
        self.assertEqual(takes(desk), 3)

    def test_changed_answers_change_nothing(self):
        desk = filled()
        for command in (("root", "x"), ("find", "x", "a")):
            wanted = list(desk.run(command))
            desk.run(command).append(7)
            desk.run(command).clear()
            self.assertEqual(desk.run(command), wanted)
        before = shown(desk)
        desk.written().clear()
        desk.written().append("z a")
        self.assertEqual(shown(desk), before)

    def test_tables_and_lists_that_are_changed_later(self):
        desk = filled()
        table = {"a": "q"}
        desk.run(("recode", "z", "x", table))
        self.assertEqual(table, {"a": "q"})
        table["a"] = "r"
        table.clear()
        self.assertEqual(desk.run(("text", "z")), "qbqb")
        commands = [("put", "v", "a"), ("recode", "w", "x", {"b": "z"}), ("text", "w")]
        given = list(commands)
        self.assertEqual(desk.run_all(commands), [1, 3, "azaz"])
        self.assertEqual(commands, given)
        before = shown(desk)
        commands.clear()
        self.assertEqual(shown(desk), before)

    def test_the_kinds_of_the_errors(self):
        for error in (BadName, NoShelf, BadCommand, Full, NothingToUndo, BadScript):
            self.assertTrue(issubclass(error, DeskError))
