"""Rules and keepings."""
import operator
import random
import re

from remadedays.errors import BadName, BadNumber, BadTable, BadText
from remadedays.rules import Keeping, Nights, Rule
from samples import FAR, HOLDERS, NAMES, NOT_NAMES, ODD, TOO_LONG, Checked

NOT_NIGHTS = [-1, 4001, -4000, FAR, -FAR, "All", "ALL", "al", "all ", "", "none", "0", "a", "all\n", *ODD, *HOLDERS[:4],
              *HOLDERS[6:], *TOO_LONG, Rule(), Keeping()]
SPARE = {Rule: 0, Keeping: "all"}
TABLES = ["a", "all", "b", "cls", "nights", "none", "self", "zz"]
SIGNS = (operator.le, operator.lt, operator.ge, operator.gt, operator.eq, operator.ne)


def rank(value):
    """A value as a number."""
    return 5000 if value == "all" else value


def some_values(rng, most=5):
    """A drawn table of values."""
    return {name: rng.choice([0, 1, 2, 3, 7, 4000, "all", "all"]) for name in rng.sample(TABLES, rng.randint(0, most))}


class Made(Checked):

    def test_by_keywords_and_of_a_dict(self):
        rng = random.Random(61)
        for kind in (Rule, Keeping):
            for _ in range(200):
                told = some_values(rng, 8)
                names = list(told)
                rng.shuffle(names)
                made = kind.of({name: told[name] for name in names})
                same = kind(**{name: told[name] for name in reversed(names)})
                self.assertIs(type(made), kind)
                self.assertIs(type(same), kind)
                self.assertEqual(made, same)
                self.assertEqual(str(made), str(same))
                for name in [*NAMES, *TABLES]:
                    self.assertEqual(made[name], told.get(name, SPARE[kind]))
                    self.assertEqual(same[name], made[name])
                self.assertEqual(made.told, tuple(sorted(name for name in told if told[name] != SPARE[kind])))
        self.assertEqual(Rule(self=3, cls=4, nights="all").told, ("cls", "nights", "self"))
        self.assertEqual(Keeping.of(nights={"self": 3})["self"], 3)
        self.assertEqual([Rule()["a"], Keeping()["a"], Rule.of({}) == Rule(), Keeping.of({}) == Keeping()], [0, "all", True, True])

    def test_all(self):
        self.assertEqual([Nights.ALL, Rule.ALL, Keeping.ALL, Rule().ALL, Keeping(a=1).ALL], ["all"] * 5)
        self.assertTrue(issubclass(Rule, Nights) and issubclass(Keeping, Nights))
        for kind in (Rule, Keeping):
            for value in (0, 1, 3999, 4000, Nights.ALL):
                self.assertEqual(kind(a=value)["a"], value)
                self.assertEqual(kind.of({"a": value})["a"], value)
                self.assertIs(type(kind(a=value)["a"]), type(value))

    def test_methods_stand_in_the_classes(self):
        for kind in (Rule, Keeping):
            for name in ("of", "read", "put", "told", "__getitem__", "__le__", "__lt__", "__eq__", "__and__", "__or__", "__str__"):
                self.assertIn(name, vars(kind))
            self.assertIsInstance(vars(kind)["told"], property)

    def test_what_is_no_dict(self):
        for kind in (Rule, Keeping):
            for value in [*ODD, *TOO_LONG, 0, "a", *[held for held in HOLDERS if not isinstance(held, dict)], Rule(a=1)]:
                self.refuses(BadTable, {"value": value}, kind.of, value)
                self.refuses(BadTable, {"value": value}, kind.of, nights=value)

    def test_wrong_names(self):
        for kind in (Rule, Keeping):
            for value in NOT_NAMES:
                try:
                    hash(value)
                except TypeError:
                    continue
                self.refuses(BadName, {"value": value}, kind.of, {value: 1})
                self.refuses(BadName, {"value": value}, kind.of, {"a": -1, value: None, "B": 1})
                self.refuses(BadName, {"value": "B"}, kind.of, {"a": -1, "B": 1, value: None})
            # Of keywords the least one is told.
            self.refuses(BadName, {"value": "A"}, lambda: kind(zZ=1, A=2, b=-1, aA=0))
            self.refuses(BadName, {"value": ""}, lambda: kind(**{"b c": 1, "": None, "a": None}))
            self.refuses(BadName, {"value": "zZ"}, lambda: kind(a=-1, zZ=1, zz=True))
            self.refuses(BadName, {"value": "nine" * 3}, lambda: kind(**{"nine" * 3: 1}))

    def test_wrong_values(self):
        for kind in (Rule, Keeping):
            for value in NOT_NIGHTS:
                self.refuses(BadNumber, {"value": value}, kind.of, {"a": value})
                self.refuses(BadNumber, {"value": value}, lambda: kind(a=value))
                # By the order of the tables, not of the dict.
                self.refuses(BadNumber, {"value": value}, kind.of, {"c": None, "b": value, "a": 4000})
                self.refuses(BadNumber, {"value": value}, lambda: kind(z=-1, self=value, a="all"))
            self.refuses(BadNumber, {"value": True}, kind.of, {"z": -1, "y": None, "x": True, "b": 0})

    def test_what_was_passed_is_changed(self):
        for kind in (Rule, Keeping):
            told = {"a": 3, "b": "all"}
            made = kind.of(told)
            told["a"] = 5
            told["c"] = 1
            del told["b"]
            self.assertEqual([made["a"], made["b"], made["c"]], [3, "all", SPARE[kind]])
            self.assertEqual(made, kind(a=3, b="all"))

    def test_asked_for_what_is_no_name(self):
        for kind in (Rule, Keeping):
            for value in NOT_NAMES:
                self.refuses(BadName, {"value": value}, operator.getitem, kind(a=1), value)


class Signs(Checked):

    def test_put(self):
        rng = random.Random(62)
        for kind in (Rule, Keeping):
            for _ in range(150):
                told = some_values(rng)
                made = kind.of(told)
                name, value = rng.choice(TABLES), rng.choice([0, 5, 4000, "all"])
                text = str(made)
                found = made.put(name, value)
                self.assertIs(type(found), kind)
                self.assertEqual(found, kind.of({**told, name: value}))
                self.assertEqual(found[name], value)
                self.assertEqual(str(made), text)
            self.assertEqual(kind(a=1).put(value=SPARE[kind], table="a").told, ())

    def test_put_refused(self):
        for kind in (Rule, Keeping):
            made = kind(a=1, b="all")
            for value in NOT_NAMES:
                self.refuses(BadName, {"value": value}, made.put, value, 3)
                self.refuses(BadName, {"value": value}, made.put, value, None)
            for value in NOT_NIGHTS:
                self.refuses(BadNumber, {"value": value}, made.put, "a", value)
                self.refuses(BadNumber, {"value": value}, made.put, table="c", value=value)
            self.assertEqual(made, kind(b="all", a=1))

    def test_compared_by_all_tables(self):
        rng = random.Random(63)
        seen = set()
        for kind in (Rule, Keeping):
            for _ in range(1500):
                told, other = some_values(rng, 3), some_values(rng, 3)
                if rng.random() < 0.4:
                    other = {**told, **some_values(rng, 1)}
                one, two = kind.of(told), kind.of(other)
                pairs = [(rank(one[name]), rank(two[name])) for name in TABLES]
                below, above = all(a <= b for a, b in pairs), all(a >= b for a, b in pairs)
                equal = below and above
                wanted = [below, below and not equal, above, above and not equal, equal, not equal]
                self.assertEqual([sign(one, two) for sign in SIGNS], wanted)
                seen.add(tuple(wanted))
        self.assertEqual(len(seen), 4)

    def test_tables_told_in_one_alone(self):
        self.assertTrue(Rule() < Rule(a=1) and Rule(a=1) > Rule() and not Rule(a=1) <= Rule())
        self.assertTrue(Keeping(a=1) < Keeping() and Keeping() >= Keeping(a=4000) and not Keeping() <= Keeping(a=4000))
        self.assertFalse(Rule(a=1) <= Rule(b=1) or Rule(a=1) >= Rule(b=1) or Rule(a=1) == Rule(b=1))
        self.assertFalse(Keeping(a=1) <= Keeping(b=1) or Keeping(a=1) >= Keeping(b=1))
        self.assertTrue(Rule(a=4000) < Rule(a="all") and Keeping(a=0) > Keeping(a=0, b=7))
        self.assertEqual([Rule(a=0) == Rule(), Keeping(a="all") == Keeping(), Rule(a="all") == Rule()], [True, True, False])

    def test_lesser_and_greater(self):
        rng = random.Random(64)
        for kind in (Rule, Keeping):
            for _ in range(300):
                one, two = kind.of(some_values(rng)), kind.of(some_values(rng))
                lesser, greater = one & two, one | two
                self.assertIs(type(lesser), kind)
                self.assertIs(type(greater), kind)
                for name in TABLES:
                    self.assertEqual(rank(lesser[name]), min(rank(one[name]), rank(two[name])))
                    self.assertEqual(rank(greater[name]), max(rank(one[name]), rank(two[name])))
                self.assertEqual(lesser, kind.of({name: lesser[name] for name in TABLES}))
                self.assertTrue(lesser <= one <= greater and lesser <= two <= greater)

    def test_a_rule_is_no_keeping(self):
        for told in ({}, {"a": 3}, {"a": "all", "b": 0}):
            self.assertFalse(Rule.of(told) == Keeping.of(told))
            self.assertFalse(Keeping.of(told) == Rule.of(told))
            self.assertTrue(Rule.of(told) != Keeping.of(told))
            for value in [*ODD, 0, 1, "a 3", {}, {"a": 3}, ()]:
                self.assertFalse(Rule.of(told) == value)
                self.assertFalse(Keeping.of(told) == value)


def read_by_looking(text):
    """The values that a text tells, or the index of the first word that cannot stand."""
    words = text.split(" ")
    if words == ["none"]:
        return {}
    told = {}
    for at, word in enumerate(words):
        if at % 2 == 0:
            if not re.fullmatch("[a-z]{1,8}", word) or (at and word <= words[at - 2]):
                return at
        elif word == "all":
            told[words[at - 1]] = word
        elif re.fullmatch("0|[1-9][0-9]{0,3}", word) and int(word) <= 4000:
            told[words[at - 1]] = int(word)
        else:
            return at
    return told if len(words) % 2 == 0 else len(words)


class Texts(Checked):

    def check_read(self, text):
        """Both classes read the text as looking tells."""
        found = read_by_looking(text)
        for kind in (Rule, Keeping):
            if isinstance(found, dict):
                self.assertEqual(kind.read(text), kind.of(found))
            else:
                self.refuses(BadText, {"line": 0, "word": found}, kind.read, text)
        return isinstance(found, dict)

    def test_str(self):
        self.assertEqual([str(Rule()), str(Keeping()), str(Rule(a=0)), str(Keeping(a="all"))], ["none"] * 4)
        self.assertEqual(str(Rule(b=2, a="all", c=0)), "a all b 2")
        self.assertEqual(str(Keeping(b=2, a="all", c=0)), "b 2 c 0")
        self.assertEqual([str(Rule(none="all")), str(Keeping(all=4000))], ["none all", "all 4000"])

    def test_read_what_str_writes(self):
        rng = random.Random(65)
        for kind in (Rule, Keeping):
            for _ in range(200):
                made = kind.of(some_values(rng, 8))
                found = kind.read(str(made))
                self.assertIs(type(found), kind)
                self.assertEqual(found, made)

    def test_values_of_tables_not_told(self):
        self.assertEqual(Rule.read("a 0 b all"), Rule(b="all"))
        self.assertEqual(Keeping.read("a 0 b all c all"), Keeping(a=0))
        self.assertEqual([Rule.read("all 0").told, Keeping.read("all all").told], [(), ()])
        self.assertEqual([Rule.read(text="none")["none"], Rule.read("none 5")["none"], Keeping.read("none all")["none"]],
                         [0, 5, "all"])

    def test_changed_words(self):
        rng = random.Random(66)
        spare = ["a", "all", "none", "0", "7", "4000", "4001", "007", "00", "-0", "+3", "-1", "1_0", "", "A", "abcdefghi", "b\n",
                 "\n", "3\n", "self", "zzz", "m", "9" * 60, "9" * 61, "\u00b2", "\u0661", "a-b", "4e1", "True"]
        kinds = {True: 0, False: 0}
        for _ in range(400):
            words = [word for name in sorted(rng.sample(TABLES, rng.randint(0, 4)))
                     for word in (name, rng.choice(["0", "5", "all", "4000"]))] or ["none"]
            texts = []
            for at in range(len(words) + 1):
                texts.append([*words[:at], rng.choice(spare), *words[at:]])
                texts.append([*words[:at], *words[at + 1:]])
                if at < len(words):
                    texts.append([*words[:at], rng.choice(spare), *words[at + 1:]])
                    texts.append([*words[:at], words[at], *words[at:]])
                    texts.append([*words[:at], words[at] + rng.choice([" ", "\n", "0"]), *words[at + 1:]])
                    other = rng.randrange(len(words))
                    changed = list(words)
                    changed[at], changed[other] = words[other], words[at]
                    texts.append(changed)
            for text in texts:
                kinds[self.check_read(" ".join(text))] += 1
        self.assertGreater(min(kinds.values()), 500)

    def test_told_texts(self):
        for text, word in (("", 0), (" ", 0), ("a", 1), ("a ", 1), ("a 1 ", 2), (" a 1", 0), ("a  1", 1), ("a 1  b 2", 2),
                           ("a 1 a 2", 2), ("b 1 a 2", 2), ("a 1 none", 3), ("a 1 b", 3), ("none none", 1), ("none 5 a 3", 2),
                           ("none ", 1), ("none\n", 0), ("a 1\n", 1), ("a\n1", 0), ("a 01", 1), ("a +1", 1), ("a -0", 1),
                           ("a 4001", 1), ("a 4000 b 40000", 3), ("a ALL", 1), ("5 a", 0), ("all", 1), ("a 1 b all c", 5)):
            self.assertFalse(self.check_read(text), text)
            self.refuses(BadText, {"line": 0, "word": word}, Rule.read, text)

    def test_what_is_no_string(self):
        for kind in (Rule, Keeping):
            for value in [None, True, 0, 7, FAR, Rule(), Keeping(a=1), *HOLDERS]:
                self.refuses(BadText, {"line": 0, "word": 0}, kind.read, value)
