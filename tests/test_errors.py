import unittest

from pressroots import errors

BASES = {
    "PressError": ValueError,
    "BadText": errors.PressError,
    "BadPlaces": errors.PressError,
    "BadCount": errors.PressError,
    "TooLong": errors.PressError,
    "TooShort": errors.PressError,
    "NoText": errors.PressError,
    "BadPress": errors.PressError,
    "BadPaper": errors.PressError,
    "BadLine": errors.PressError,
    "NotARoot": errors.PressError,
    "DeskError": errors.PressError,
    "BadName": errors.DeskError,
    "BadCommand": errors.DeskError,
    "Full": errors.DeskError,
    "NothingToUndo": errors.DeskError,
    "NoShelf": errors.DeskError,
    "BadScript": errors.DeskError,
}
ATTRIBUTES = {
    "BadPress": ("index", [0, 7, 10 ** 30, 10 ** 5000]),
    "BadPaper": ("index", [0, 7, 10 ** 30, 10 ** 5000]),
    "BadLine": ("index", [0, 7, 10 ** 30, 10 ** 5000]),
    "BadScript": ("index", [0, 7, 10 ** 30, 10 ** 5000]),
    "NotARoot": ("word", ["a", "abaab", "z" * 128]),
    "NoShelf": ("name", ["", "x", "shelf", "No such\tshelf\n"]),
}


class ErrorsTest(unittest.TestCase):
    def test_the_file_defines_exactly_these_classes(self):
        defined = {name: value for name, value in vars(errors).items() if isinstance(value, type)}
        self.assertEqual(sorted(defined), sorted(BASES))
        for name, value in defined.items():
            self.assertEqual(value.__module__, "pressroots.errors")
            self.assertEqual(value.__name__, name)

    def test_each_class_has_the_base_that_the_document_names(self):
        for name, base in BASES.items():
            with self.subTest(name):
                self.assertEqual(getattr(errors, name).__bases__, (base,))

    def test_no_class_is_a_subclass_of_another_one_except_as_told(self):
        for name, base in BASES.items():
            told = {name, base.__name__, "PressError"}
            for other in BASES:
                with self.subTest(name, other=other):
                    below = issubclass(getattr(errors, name), getattr(errors, other))
                    self.assertEqual(below, other in told)

    def test_attributes_are_what_was_given(self):
        for name, (attribute, values) in ATTRIBUTES.items():
            for value in values:
                with self.subTest(name):
                    error = getattr(errors, name)(value)
                    self.assertEqual(getattr(error, attribute), value)
                    self.assertIs(type(getattr(error, attribute)), type(value))

    def test_each_error_can_be_raised_shown_and_caught_as_every_error_above_it(self):
        for name in BASES:
            cls = getattr(errors, name)
            given = ATTRIBUTES[name][1][-1] if name in ATTRIBUTES else "why"
            for above in (cls, BASES[name], errors.PressError, ValueError):
                with self.subTest(name, above=above.__name__):
                    with self.assertRaises(above) as caught:
                        raise cls(given)
                    self.assertIs(type(caught.exception), cls)
                    self.assertIsInstance(str(caught.exception), str)
