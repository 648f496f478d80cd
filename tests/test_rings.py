"""Rings of webs that are not sound."""
import random
import unittest

from remadedays.cycles import Cycle
from remadedays.errors import Unsound
from remadedays.rings import heights, ring
from remadedays.ties import Ahead, Back, Last, Same, Sofar, Whole
from remadedays.webs import Web
from samples import LONG, WEEKS, Checked
from webmodel import made_from, ring_by_looking, some_web


class Rings(Checked):

    def check_ring(self, web, records):
        self.assertIs(type(records), tuple)
        self.assertGreaterEqual(len(records), 2)
        for one, other in zip(records, records[1:]):
            self.assertIs(type(one), tuple)
            self.assertIn(other, made_from(web, one))
        (table, day), (last, end) = records[0], records[-1]
        self.assertIn(day, range(web.cycle.total))
        self.assertEqual(table, last)
        self.assertEqual((end - day) % web.cycle.total, 0)
        self.assertGreaterEqual(end, day)
        self.refuses(Unsound, {"table": table}, heights, web)

    def test_against_a_search(self):
        rng = random.Random(12)
        kinds = {None: 0}
        for _ in range(1500):
            web = some_web(rng)
            found = ring(web)
            self.assertEqual(found, ring_by_looking(web))
            if found is None:
                kinds[None] += 1
                heights(web)
            else:
                self.check_ring(web, found)
                kinds[len(found)] = kinds.get(len(found), 0) + 1
        self.assertGreater(kinds[None], 200)
        self.assertGreater(len(kinds), 5)

    def test_against_a_search_with_few_steps_ahead(self):
        rng = random.Random(13)
        lengths = set()
        for _ in range(250):
            total = rng.randint(2, 6)
            names = "abc"[:rng.randint(2, 3)]
            tables = {name: [Back(rng.choice(names), rng.choice((0, total, total + 1, 2 * total))) for _ in range(2)]
                      for name in names}
            tables["a"] = [Ahead("b", rng.randint(1, total)), *tables["a"][:rng.randint(0, 1)]]
            web = Web.of(Cycle(total), tables)
            found = ring(web=web)
            self.assertEqual(found, ring_by_looking(web))
            lengths.add(found and len(found))
        self.assertGreater(len(lengths), 8)

    def test_a_tie_to_the_table_itself(self):
        told = [
            (Sofar("a"), (("a", 0), ("a", 0))), (Back("a", 0), (("a", 0), ("a", 0))),
            (Ahead("a", 7), (("a", 0), ("a", 7))), (Ahead("a", 14), (("a", 0), ("a", 14))),
            (Ahead("a", 1), tuple(("a", day) for day in range(8))),
            (Ahead("a", 3), tuple(("a", 3 * k) for k in range(8))),
            (Back("a", 1), None), (Back("a", 7), None), (Whole("a"), None), (Last("a"), None), (Same("a"), None),
        ]
        for tie, records in told:
            self.assertEqual(ring(Web(WEEKS, a=[tie])), records)
            both = Web(WEEKS, a=[Back("a", 1), tie])
            self.assertEqual(ring(both), ring_by_looking(both))

    def test_sound_webs(self):
        for web in (Web(WEEKS), Web(WEEKS, a=[]), Web(WEEKS, a=[Back("b", 0)], b=[]), Web(LONG, a=[Ahead("b", 60)], b=[]),
                    Web(LONG, a=[Whole("a"), Same("a"), Last("a"), Back("a", 1)]),
                    Web(WEEKS, a=[Ahead("b", 6)], b=[Back("a", 7)]), Web(WEEKS, a=[Sofar("b")], b=[Last("a")])):
            self.assertIsNone(ring(web))

    def test_rings_over_several_cycles(self):
        self.assertEqual(ring(Web(Cycle(5), a=[Ahead("a", 4)])), tuple(("a", 4 * k) for k in range(6)))
        self.assertEqual(ring(Web(Cycle(2, 2), a=[Ahead("b", 7)], b=[Back("a", 1)])), (("a", 0), ("b", 7), ("a", 6), ("b", 13),
                                                                                     ("a", 12)))
        # Only the records of one rest of a look ahead of the week far enough.
        web = Web(Cycle(1, 6), a=[Whole("b")], b=[Ahead("a", 8)])
        self.assertEqual(ring(web), ring_by_looking(web))

    def test_no_ring_goes_back_only(self):
        self.assertEqual(ring(Web(WEEKS, a=[Back("b", 7)], b=[Ahead("a", 7)])), (("a", 0), ("b", -7), ("a", 0)))
        self.assertIsNone(ring(Web(WEEKS, a=[Back("b", 8)], b=[Ahead("a", 7)])))
        self.assertIsNone(ring(Web(WEEKS, a=[Back("b", 14)], b=[Ahead("a", 7)])))

    def test_least_of_several(self):
        # The ring of z is as short, and the one of b is longer.
        web = Web(WEEKS, b=[Back("c", 0)], c=[Back("d", 0)], d=[Back("b", 0)], x=[Back("z", 0)], z=[Back("x", 0), Back("x", 1)])
        self.assertEqual(ring(web), (("x", 0), ("z", 0), ("x", 0)))
        web = Web(WEEKS, a=[Ahead("b", 2), Ahead("b", 1), Back("b", 1)], b=[Back("a", 1), Back("a", 0), Ahead("a", 1)])
        self.assertEqual(ring(web), (("a", 0), ("b", -1), ("a", 0)))
        # A ring of rest 2 only: the record of rest 0 is made of nothing.
        self.assertEqual(ring(Web(Cycle(2, 3), a=[Same("b")], b=[Ahead("a", 3)])),
                         ring_by_looking(Web(Cycle(2, 3), a=[Same("b")], b=[Ahead("a", 3)])))


class LongRings(Checked):

    def test_through_all_tables_and_rests(self):
        tables = {name: [Back(other, 0)] for name, other in zip("abcde", "bcdef")}
        web = Web.of(Cycle(60), {**tables, "f": [Ahead("a", 1)]})
        row = [(name, day) for day in range(60) for name in "abcdef"]
        self.assertEqual(ring(web), tuple(row + [("a", 60)]))
        self.refuses(Unsound, {"table": "a"}, heights, web)

    def test_useless_ties_back(self):
        tables = {name: [Back(other, 0), *[Back(far, 60) for far in "bdfa"]] for name, other in zip("abcde", "bcdef")}
        web = Web.of(Cycle(60), {**tables, "f": [Ahead("a", 1), Back("f", 60)]})
        # Only the one from a to f saves a step: it takes back all days but one.
        row = [(name, day) for day in range(59) for name in "abcdef"]
        self.assertEqual(ring(web), tuple(row + [("a", 59), ("f", -1), ("a", 0)]))

    def test_through_unlike_blocks(self):
        web = Web(Cycle(9, 30, 21), a=[Last("b")], b=[Back("c", 0)], c=[Ahead("a", 31)])
        found = ring(web)
        self.assertEqual(found, ring_by_looking(web))
        self.assertIsNotNone(found)

    def test_sixty_days(self):
        rng = random.Random(14)
        for _ in range(6):
            names = "abcdef"
            tables = {name: [Back(rng.choice(names), rng.randint(20, 60)) for _ in range(4)] for name in names}
            tables["a"] = [*tables["a"], Ahead(rng.choice(names), rng.randint(30, 60))]
            web = Web.of(Cycle(20, 25, 15), tables)
            found = ring(web)
            if found is None:
                heights(web)
            else:
                Rings.check_ring(self, web, found)


if __name__ == "__main__":
    unittest.main()
