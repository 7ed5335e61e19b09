import copy
import inspect
import unittest

from foldletter import errors

WITHOUT_FIELDS = ["NoDate", "NoOctets", "NoPart", "NoPath", "NoPlace", "NoText", "NoChange", "NoBorder", "NoSeal"]
WITH_AT = ["NoWords", "NoSaying", "NoAddress", "NoKind", "NoCode", "NoLetter"]
NAMES = ["NoHead", *WITHOUT_FIELDS, *WITH_AT]


def named(name):
    return getattr(errors, name)


class ClassesTest(unittest.TestCase):
    def test_letter_error_stands_straight_under_value_error(self):
        self.assertEqual(errors.LetterError.__bases__, (ValueError,))

    def test_each_refusal_stands_straight_under_letter_error(self):
        for name in NAMES:
            with self.subTest(name):
                self.assertEqual(named(name).__bases__, (errors.LetterError,))

    def test_no_refusal_stands_under_another_one(self):
        for name in NAMES:
            for other in NAMES:
                with self.subTest(name, other=other):
                    self.assertEqual(issubclass(named(name), named(other)), name == other)

    def test_each_class_is_defined_in_errors_by_its_name(self):
        for name in ["LetterError", *NAMES]:
            with self.subTest(name):
                self.assertTrue(inspect.isclass(named(name)))
                self.assertEqual(named(name).__name__, name)
                self.assertEqual(named(name).__module__, "foldletter.errors")

    def test_there_are_no_other_classes(self):
        found = [name for name, _ in inspect.getmembers(errors, inspect.isclass)]
        self.assertEqual(sorted(found), sorted(["LetterError", *NAMES]))


class WithoutFieldsTest(unittest.TestCase):
    def test_made_of_a_text(self):
        for name in ["LetterError", *WITHOUT_FIELDS]:
            with self.subTest(name):
                error = named(name)("why so")
                self.assertEqual(str(error), "why so")
                self.assertEqual(error.args, ("why so",))

    def test_no_fields(self):
        for name in ["LetterError", *WITHOUT_FIELDS]:
            with self.subTest(name):
                self.assertEqual(vars(named(name)("why so")), {})

    def test_made_by_name(self):
        for name in ["LetterError", *WITHOUT_FIELDS]:
            with self.subTest(name):
                self.assertEqual(str(named(name)(why="why so")), "why so")

    def test_caught_as_letter_error_and_as_value_error(self):
        for name in ["LetterError", *WITHOUT_FIELDS]:
            for above in [errors.LetterError, ValueError]:
                with self.subTest(name, above=above):
                    with self.assertRaises(above):
                        raise named(name)("why so")


class FieldTest(unittest.TestCase):
    FIELDS = {"NoHead": "line", **{name: "at" for name in WITH_AT}}

    def test_the_parameters(self):
        for name, field in self.FIELDS.items():
            with self.subTest(name):
                parameters = inspect.signature(named(name)).parameters
                self.assertEqual(list(parameters), ["why", field])
                self.assertEqual(parameters["why"].default, inspect.Parameter.empty)
                self.assertEqual(parameters[field].default, 0)

    def test_the_default_is_nought(self):
        for name, field in self.FIELDS.items():
            with self.subTest(name):
                error = named(name)("why so")
                self.assertEqual(vars(error), {field: 0})
                self.assertEqual(str(error), "why so")

    def test_made_by_place(self):
        for name, field in self.FIELDS.items():
            with self.subTest(name):
                error = named(name)("why so", 7)
                self.assertEqual(vars(error), {field: 7})
                self.assertEqual(str(error), "why so")

    def test_made_by_name(self):
        for name, field in self.FIELDS.items():
            for error in [named(name)("why so", **{field: 8}), named(name)(**{field: 8, "why": "why so"})]:
                with self.subTest(name, error=error):
                    self.assertEqual(vars(error), {field: 8})
                    self.assertEqual(str(error), "why so")

    def test_each_object_has_a_field_of_its_own(self):
        for name, field in self.FIELDS.items():
            with self.subTest(name):
                one = named(name)("why so", 1)
                two = named(name)("why so", 2)
                self.assertEqual([getattr(one, field), getattr(two, field)], [1, 2])

    def test_caught_with_its_field(self):
        for name, field in self.FIELDS.items():
            with self.subTest(name):
                with self.assertRaises(errors.LetterError) as caught:
                    raise named(name)("why so", 3)
                self.assertIs(caught.exception.__class__, named(name))
                self.assertEqual(getattr(caught.exception, field), 3)

    def test_copied_with_its_field(self):
        for name, field in self.FIELDS.items():
            with self.subTest(name):
                twin = copy.copy(named(name)("why so", 4))
                self.assertEqual((str(twin), vars(twin)), ("why so", {field: 4}))


if __name__ == "__main__":
    unittest.main()
