"""Values and checks that several tests share."""
import unittest

from remadedays.cycles import Cycle
from remadedays.days import Days
from remadedays.records import Records
from remadedays.rings import heights
from remadedays.ties import Back, Sofar
from remadedays.webs import Web

FAR = 10 ** 60 - 1
WEEKS = Cycle(7)
LONG = Cycle(2, 3)
NESTED = [(1, [2, {"a": (None, [True, "x"])}]), {"k": [[], {}, ()]}]
OBJECTS = [Days.none(), Days.of([3]), WEEKS, Back("a", 3), Sofar("a"), Web(WEEKS, a=[]),
           Records({"a": Days.always()}), heights(Web(WEEKS, a=[]))]
# What is neither an integer nor a name, a list, a tuple or a dict.
ODD = [None, True, False, "", "%s", "%d of %d", "5", "-5", "A", "a b", "a\nb", "ab1", "x" * 2000, *OBJECTS]
HOLDERS = [(), [], {}, (1,), [1], [0], {1: 2}, {"a": 1}, (0, 1), [None], *NESTED]
TOO_LONG = [10 ** 60, -10 ** 60, 10 ** 79, -(10 ** 80 - 1), 10 ** 60 + 5]
NOT_DAYS = [*ODD, *HOLDERS, *TOO_LONG, "a", "days"]
NOT_NAMES = [None, True, 0, 7, FAR, 10 ** 60, "", "abcdefghi", "A", "aB", "a1", "1", "a b", " a", "a ", "a\n", "\n", "a-b",
             "a_b", "_", "a.b", "\u00e9", "a\u00e9", "x" * 2000, ("a",), ["a"], {"a": 1}, (), [], {}, *NESTED, *OBJECTS]
NAMES = ["a", "z", "back", "from", "all", "none", "abcdefgh", "zzzzzzzz", "days", "self", "cycle", "table"]


class Checked(unittest.TestCase):
    """A test case that can check which error is raised, with just which attributes."""

    def refuses(self, kind, told, work, *args, **named):
        """Checks that the call raises the error of just this class with these attributes, the very values."""
        with self.assertRaises(kind) as held:
            work(*args, **named)
        self.assertIs(type(held.exception), kind)
        found = vars(held.exception)
        self.assertEqual(list(found), list(told))
        for name in told:
            if found[name] is not told[name]:
                self.assertIs(type(found[name]), type(told[name]))
                self.assertEqual(found[name], told[name])
