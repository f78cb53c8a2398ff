"""Point 4: the errors."""

import unittest

from poisonruns import errors
from tests.samples import any_values

SUBCLASSES = {
    "InvalidRun": "at", "InvalidTable": "word", "InvalidEvidence": "word", "InvalidText": "at", "InvalidRows": "at",
    "Impossible": None, "InvalidCommand": None, "Mismatch": None, "Refused": "at",
}
OTHERS = {"NoRun": ("at", IndexError), "NoTest": ("name", KeyError)}


class Bases(unittest.TestCase):
    def test_base(self):
        self.assertEqual(errors.PoisonError.__bases__, (ValueError,))

    def test_direct_subclasses(self):
        self.assertEqual(len(SUBCLASSES), 9)
        for name in SUBCLASSES:
            with self.subTest(name):
                self.assertEqual(getattr(errors, name).__bases__, (errors.PoisonError,))

    def test_others(self):
        for name, (_, base) in OTHERS.items():
            with self.subTest(name):
                self.assertEqual(getattr(errors, name).__bases__, (base,))
                self.assertFalse(issubclass(getattr(errors, name), errors.PoisonError))

    def test_none_is_derived_from_another_one(self):
        classes = [getattr(errors, name) for name in [*SUBCLASSES, *OTHERS]]
        for one in classes:
            for other in classes:
                self.assertEqual(issubclass(one, other), one is other)

    def test_nothing_else_is_an_error(self):
        found = [name for name, value in vars(errors).items() if isinstance(value, type)]
        self.assertEqual(sorted(found), sorted(["PoisonError", *SUBCLASSES, *OTHERS]))


class Arguments(unittest.TestCase):
    def parameters(self):
        told = [(name, word) for name, word in SUBCLASSES.items() if word is not None]
        return told + [(name, word) for name, (word, _) in OTHERS.items()]

    def test_by_position_and_by_name(self):
        for name, word in self.parameters():
            for value in [*any_values(), {"a": [1]}, object(), int]:
                with self.subTest(name, value=value):
                    kind = getattr(errors, name)
                    self.assertIs(getattr(kind(value), word), value)
                    self.assertIs(getattr(kind(**{word: value}), word), value)

    def test_the_attribute_of_a_raised_error(self):
        for name, word in self.parameters():
            value = ["a", [1]]
            with self.assertRaises(getattr(errors, name)) as caught:
                raise getattr(errors, name)(value)
            value.append(2)
            self.assertIs(getattr(caught.exception, word), value)
            self.assertEqual(getattr(caught.exception, word), ["a", [1], 2])

    def test_one_argument_is_needed(self):
        for name, _ in self.parameters():
            self.assertRaises(TypeError, getattr(errors, name))
            self.assertRaises(TypeError, getattr(errors, name), 1, 2)

    def test_without_arguments(self):
        for name in [name for name, word in SUBCLASSES.items() if word is None]:
            with self.assertRaises(errors.PoisonError) as caught:
                raise getattr(errors, name)()
            self.assertIs(type(caught.exception), getattr(errors, name))

    def test_caught_as_what_they_derive_from(self):
        for name, word in SUBCLASSES.items():
            with self.assertRaises(ValueError):
                raise getattr(errors, name)(*([] if word is None else [1]))
        with self.assertRaises(IndexError):
            raise errors.NoRun(2)
        with self.assertRaises(KeyError):
            raise errors.NoTest("a")
