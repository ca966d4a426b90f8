"""The refusals: base, word and values of each class."""

import unittest

from warbleline import errors

VALUES = {
    "BadBit": "at", "BadByte": "at", "BadCode": "at", "BadFrame": "at",
    "BadCount": None, "BadRate": None, "BadTaps": None, "BadNoise": None,
    "TooLong": "most", "Full": "most", "NoRate": "loud", "NotOpen": None, "Away": "name",
}


def made(kind, value, given):
    return kind() if value is None else kind(given)


class LineErrorTest(unittest.TestCase):
    def test_each_stands_straight_under_line_error(self):
        for word in VALUES:
            with self.subTest(word):
                self.assertEqual(getattr(errors, word).__bases__, (errors.LineError,))
        self.assertEqual(errors.LineError.__bases__, (ValueError,))

    def test_each_tells_its_own_name(self):
        for word, value in VALUES.items():
            with self.subTest(word):
                self.assertEqual(made(getattr(errors, word), value, 7).word, word)

    def test_each_has_its_value_and_no_other(self):
        for word, value in VALUES.items():
            for given in (0, 99999999999999999999, -1, "one", ""):
                with self.subTest(word, given=given):
                    refusal = made(getattr(errors, word), value, given)
                    expected = {"word": word} if value is None else {"word": word, value: given}
                    self.assertEqual(vars(refusal), expected)

    def test_values_are_handed_in_by_name_too(self):
        for word, value in VALUES.items():
            if value is not None:
                with self.subTest(word):
                    refusal = getattr(errors, word)(**{value: 5})
                    self.assertEqual(getattr(refusal, value), 5)

    def test_word_is_there_for_the_base_classes(self):
        self.assertIn("word", vars(errors.LineError()))
        self.assertIn("word", vars(errors.Missing()))

    def test_wrong_count_of_values(self):
        for word, value in VALUES.items():
            with self.subTest(word), self.assertRaises(TypeError):
                getattr(errors, word)(*([1] if value is None else []))

    def test_caught_as_value_error(self):
        for word, value in VALUES.items():
            with self.subTest(word), self.assertRaises(ValueError):
                raise made(getattr(errors, word), value, 1)


class MissingTest(unittest.TestCase):
    def test_bases(self):
        self.assertEqual(errors.Missing.__bases__, (LookupError,))
        self.assertEqual(errors.NoEnd.__bases__, (errors.Missing,))
        self.assertFalse(issubclass(errors.NoEnd, ValueError))

    def test_no_end(self):
        refusal = errors.NoEnd("third")
        self.assertEqual(vars(refusal), {"word": "NoEnd", "name": "third"})
        self.assertEqual(errors.NoEnd(name="").name, "")


class WholeTest(unittest.TestCase):
    def test_no_class_but_the_listed_ones(self):
        found = sorted(name for name, kind in vars(errors).items() if isinstance(kind, type))
        self.assertEqual(found, sorted([*VALUES, "LineError", "Missing", "NoEnd"]))


if __name__ == "__main__":
    unittest.main()
