"""The interface of the document: which names, with which arguments, are defined where."""
import importlib
import inspect
import unittest

from remadedays import errors

FUNCTIONS = {
    "rings": {"ring": "web", "heights": "web"},
    "hung": {"hung": "web, table, day", "roots": "web, table, day", "way": "web, table, day, other, other_day"},
    "settled": {"settled": "web, rule, keeping, table, day, late"},
    "lateness": {"stands": "web, rule, keeping=None", "least_rule": "web, late"},
    "again": {"again": "web, records, night", "again_count": "web, records, night"},
    "lots": {"lots": "web, table, day, late, most", "listed": "web, table, day, late, most, nights"},
    "alike": {"parted": "one, other"},
    "explained": {"explained": "web, changed, unchanged=()"},
    "papers": {"hung_paper": "web, table, day", "way_paper": "web, table, day, other, other_day", "sound_paper": "web",
               "settled_paper": "web, rule, keeping, table, day, late"},
    "looker": {"shows_hung": "web, table, day, paper", "shows_way": "web, table, day, other, other_day, paper",
               "shows_sound": "web, paper", "shows_settled": "web, rule, keeping, table, day, late, paper"},
    "texts": {"web_text": "web"},
    "reader": {"read_web": "text"},
}
METHODS = {
    ("days", "Days"): {"of": "days", "every": "period, *rests", "from_day": "day", "until": "day", "none": "", "always": "",
                       "any_of": "*many",
                       "from_parts": "parts", "count": "a, b", "after": "day", "before": "day", "within": "a, b",
                       "forward": "day",
                       "backward": "day", "read": "text"},
    ("cycles", "Cycle"): {"of": "lengths", "block": "day", "first": "day", "last": "day", "place": "day", "length": "day",
                          "read": "text"},
    ("ties", "Tie"): {"sources": "day, cycle", "users": "day, cycle", "__call__": "day, cycle", "read": "text"},
    ("webs", "Web"): {"of": "cycle, tables", "sources": "table, day", "users": "table, day", "put": "table, ties",
                      "without": "table"},
    ("rings", "Heights"): {"due": "table, day", "key": "table, day"},
    ("rules", "Rule"): {"of": "nights", "put": "table, value", "read": "text"},
    ("rules", "Keeping"): {"of": "nights", "put": "table, value", "read": "text"},
    ("settled", "Settled"): {"state": "table, day"},
    ("house", "House"): {"__init__": "web, rule, keeping=None, night=0", "sleep": "nights=1", "sleep_until": "night",
                         "correct": "table, day",
                         "state": "k, table, day", "wrong": "table", "undo": "", "trial": "", "tried": "work", "__len__": ""},
    ("desk", "Desk"): {"__init__": "", "ask": "line", "__call__": "line", "run": "*lines", "__len__": ""},
}
for _name in ("Back", "Ahead", "Sofar", "Whole", "Last", "Same"):
    METHODS["ties", _name] = {"sources": "day, cycle", "users": "day, cycle", "__call__": "day, cycle"}
PROPERTIES = {
    ("days", "Days"): "least greatest left_period right_period is_finite parts",
    ("cycles", "Cycle"): "lengths total",
    ("webs", "Web"): "cycle tables ground",
    ("rings", "Heights"): "steps",
    ("records", "Records"): "tables parts",
    ("rules", "Rule"): "told", ("rules", "Keeping"): "told", ("rules", "Nights"): "told",
    ("settled", "Settled"): "right stale half",
    ("lateness", "Stands"): "nights beyond",
    ("house", "House"): "night corrections",
    ("desk", "Desk"): "web rule keeping",
}
SIGNS = {
    ("days",
     "Days"): "__and__ __or__ __xor__ __sub__ __invert__ __add__ __radd__ __le__ __lt__ __ge__ __gt__ __eq__ __contains__ __bool__ __str__",
    ("cycles", "Cycle"): "__len__ __iter__ __rmod__ __rfloordiv__ __eq__ __str__",
    ("webs", "Web"): "__getitem__ __contains__ __len__ __iter__ __or__ __eq__",
    ("rings", "Heights"): "__getitem__",
    ("records",
     "Records"): "__getitem__ __contains__ __len__ __iter__ __bool__ __and__ __or__ __sub__ __le__ __lt__ __ge__ __gt__ __eq__ __str__",
    ("rules", "Rule"): "__getitem__ __le__ __lt__ __eq__ __and__ __or__ __str__",
    ("rules", "Keeping"): "__getitem__ __le__ __lt__ __eq__ __and__ __or__ __str__",
    ("settled", "Settled"): "__bool__",
    ("house", "House"): "__len__ __getitem__ __iadd__",
    ("desk", "Desk"): "__len__ __call__",
}
ERRORS = {"BadDay": "value", "BadNumber": "value", "BadName": "value", "BadTable": "value", "BadDays": "at", "BadCycle": "at",
          "BadTies": "table",
          "BadParts": "value", "NoTable": "table", "NotGround": "table", "InUse": "table", "Unlike": "part", "Unsound": "table",
          "TooShort": "table", "NotYet": "value", "TooMany": "what, most", "BadText": "line, word", "BadLine": "word"}


def module_of(name):
    """A module of the package."""
    return importlib.import_module(f"remadedays.{name}")


def arguments_of(function, skipped):
    """The arguments of a function as they are written, without those that the object itself stands for."""
    found = list(inspect.signature(function).parameters.values())[skipped:]
    return ", ".join(str(argument) for argument in found)


class Interface(unittest.TestCase):

    def test_functions(self):
        for name, told in FUNCTIONS.items():
            for word, arguments in told.items():
                function = vars(module_of(name))[word]
                self.assertEqual(function.__module__, f"remadedays.{name}")
                self.assertEqual(arguments_of(function, 0), arguments, word)

    def test_methods(self):
        for (name, item), told in METHODS.items():
            found = vars(module_of(name))[item]
            self.assertEqual(found.__module__, f"remadedays.{name}")
            for word, arguments in told.items():
                held = vars(found)[word]
                skipped = 0 if isinstance(held, staticmethod) else 1
                self.assertEqual(arguments_of(getattr(held, "__func__", held), skipped), arguments, (item, word))

    def test_properties_and_signs(self):
        for (name, item), words in PROPERTIES.items():
            for word in words.split():
                self.assertIsInstance(vars(vars(module_of(name))[item])[word], property, (item, word))
        for (name, item), words in SIGNS.items():
            for word in words.split():
                self.assertTrue(callable(vars(vars(module_of(name))[item])[word]), (item, word))
        self.assertIsNotNone(vars(module_of("house").House)["night"].fset)

    def test_errors(self):
        for word, arguments in ERRORS.items():
            found = vars(errors)[word]
            self.assertEqual(found.__bases__, (errors.DayError,))
            self.assertEqual(arguments_of(found, 0), arguments)
        self.assertEqual(errors.DayError.__bases__, (ValueError,))


if __name__ == "__main__":
    unittest.main()
