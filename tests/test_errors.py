"""The errors: their arguments, attributes and families."""
import unittest

from remadedays import errors
from samples import NESTED, OBJECTS

ARGUMENTS = {
    "BadDay": ["value"], "BadNumber": ["value"], "BadName": ["value"], "BadTable": ["value"], "BadDays": ["at"],
    "BadCycle": ["at"], "BadTies": ["table"], "BadParts": ["value"], "NoTable": ["table"], "NotGround": ["table"],
    "InUse": ["table"], "Unlike": ["part"], "Unsound": ["table"], "TooShort": ["table"], "NotYet": ["value"],
    "TooMany": ["what", "most"], "BadText": ["line", "word"], "BadLine": ["word"],
}
VALUES = [None, True, 0, -5, 10 ** 79, "", "abc\n", "%s", (), [], {}, (1, [2]), {"a": None}, *NESTED, *OBJECTS]


class Errors(unittest.TestCase):

    def test_by_position(self):
        for name, words in ARGUMENTS.items():
            for at, value in enumerate(VALUES):
                values = [value, VALUES[at - 1]][:len(words)]
                found = getattr(errors, name)(*values)
                for word, told in zip(words, values):
                    self.assertIs(getattr(found, word), told)

    def test_by_name(self):
        for name, words in ARGUMENTS.items():
            for at, value in enumerate(VALUES):
                named = dict(zip(reversed(words), [value, VALUES[at - 1]]))
                found = getattr(errors, name)(**named)
                for word in words:
                    self.assertIs(getattr(found, word), named[word])

    def test_too_few_and_too_many_arguments(self):
        for name, words in ARGUMENTS.items():
            with self.assertRaises(TypeError):
                getattr(errors, name)(*[1] * (len(words) + 1))
            with self.assertRaises(TypeError):
                getattr(errors, name)(*[1] * (len(words) - 1))

    def test_no_error_is_below_another_one(self):
        kinds = [getattr(errors, name) for name in ARGUMENTS]
        self.assertEqual(len(set(kinds)), 18)
        self.assertEqual(errors.DayError.__bases__, (ValueError,))
        for kind in kinds:
            self.assertEqual(kind.__mro__[1:3], (errors.DayError, ValueError))
            for other in kinds:
                self.assertEqual(issubclass(kind, other), kind is other)

    def test_raised_and_caught(self):
        for name, words in ARGUMENTS.items():
            kind = getattr(errors, name)
            for base in (kind, errors.DayError, ValueError):
                with self.assertRaises(base):
                    raise kind(*words)


if __name__ == "__main__":
    unittest.main()
