"""Hosts, [30]."""

import unittest
from itertools import permutations, product

from byhand import answer_by_hand, candidates_by_hand
from listnames.errors import NoEntry, Wrong
from listnames.hosts import Host, devolved
from listnames.zones import Zone
from things import odd_values, shorts_upto

LAB, HOUSE, LONG = ("lab",), ("house",), ("lab", "house", "end")
SUFFIXES = [LAB, ("lab", "house"), LONG, HOUSE, ("end",)]


class TestMaking(unittest.TestCase):

    def test_suffixes_are_copied(self):
        for many in range(6):
            for make in (list, tuple):
                given = make(SUFFIXES[:many])
                host = Host(given)
                if make is list:
                    given.append(("x",))
                    given.reverse()
                self.assertEqual(host.suffixes(), SUFFIXES[:many])
                host.suffixes().append(("x",))
                host.suffixes().clear()
                self.assertEqual([host.suffixes(), len(host)], [SUFFIXES[:many], many])

    def test_defaults(self):
        host = Host([LAB])
        self.assertIs(host.dots, None)
        self.assertIs(host.stops, False)

    def test_properties(self):
        for dots, stops in product([None, 0, 1, 2, 3, 4], [True, False]):
            host = Host([LAB], dots=dots, stops=stops)
            self.assertEqual(host.dots, dots)
            self.assertIs(host.stops, stops)
        for name in ("dots", "stops"):
            self.assertIsInstance(vars(Host)[name], property)

    def test_keywords_only(self):
        with self.assertRaises(TypeError):
            Host([], 1)

    def wrong(self, place, *given, **named):
        with self.assertRaises(Wrong) as caught:
            Host(*given, **named)
        self.assertEqual(caught.exception.place, place)

    def test_wrong_suffixes(self):
        six = SUFFIXES + [("six",)]
        for thing in odd_values() + [six, tuple(six), [LAB, LAB], [LAB, HOUSE, LAB], [()], [LAB, ()],
                                     [("a", "b", "c", "d")], [LAB, ("a", "b", "c", "d")], [list(LAB)], LAB, {LAB: 1},
                                     {LAB}, "lab", iter([LAB])]:
            self.wrong(0, thing)
            self.wrong(0, thing, dots=True, stops=1)
        for thing in odd_values():
            self.wrong(0, [thing])
            self.wrong(0, (LAB, thing))

    def test_wrong_dots(self):
        for thing in odd_values() + [5, 6, "1", (1,)]:
            if thing is not None:
                self.wrong(1, [LAB], dots=thing)
                self.wrong(1, [], dots=thing, stops=None)

    def test_wrong_stops(self):
        for thing in odd_values() + [0, 1]:
            if thing is not True and thing is not False:
                self.wrong(2, [LAB], dots=0, stops=thing)
                self.wrong(2, (), stops=thing)

    def test_with_suffixes(self):
        host = Host([LAB], dots=2, stops=True)
        given = [HOUSE, LONG]
        other = host.with_suffixes(given)
        given.clear()
        self.assertTrue(other == Host([HOUSE, LONG], dots=2, stops=True))
        self.assertTrue(host == Host([LAB], dots=2, stops=True))
        self.assertTrue(host.with_suffixes(()) == Host([], dots=2, stops=True))
        for thing in odd_values() + [[LAB, LAB], [()]]:
            with self.assertRaises(Wrong) as caught:
                host.with_suffixes(thing)
            self.assertEqual(caught.exception.place, 0)

    def test_equal(self):
        hosts = [Host(list(some), dots=dots, stops=stops) for many in range(3)
                 for some in permutations(SUFFIXES[:3], many) for dots in (None, 0, 1) for stops in (True, False)]
        for at, one in enumerate(hosts):
            for beside, other in enumerate(hosts):
                self.assertIs(one == other, at == beside)
                self.assertIs(one != other, at != beside)
        self.assertIs(Host((LAB,), dots=1) == Host([LAB], dots=1), True)
        for thing in odd_values() + [[LAB], LAB]:
            self.assertIs(Host([LAB]) == thing, False)


class TestItems(unittest.TestCase):

    def test_entries_of_suffixes(self):
        for many in range(6):
            host = Host(SUFFIXES[:many], dots=1)
            self.assertEqual([host[at] for at in range(many)], SUFFIXES[:many])
            for thing in odd_values() + [many, many + 1, -many, "0", (0,), LAB]:
                with self.assertRaises(NoEntry) as caught:
                    host[thing]
                self.assertIs(caught.exception.entry, thing)

    def test_in(self):
        host = Host([LAB, LONG])
        self.assertEqual([LAB in host, LONG in host, HOUSE in host, () in host], [True, True, False, False])
        for thing in odd_values() + [list(LAB), 0, 1]:
            self.assertIs(thing in host, False)

    def test_not_iterated(self):
        with self.assertRaises(TypeError):
            list(Host([LAB]))


class TestCandidates(unittest.TestCase):

    def test_all(self):
        for many, dots, size in product(range(6), [None, 0, 1, 2, 3, 4], range(1, 7)):
            short = ("w", "lab", "x", "lab", "house", "end")[:size]
            host = Host(SUFFIXES[:many], dots=dots, stops=size % 2 == 0)
            found = candidates_by_hand(SUFFIXES[:many], dots, short)
            self.assertEqual(host.candidates(short), found)
            own = [many] if dots is not None else []
            plain = list(range(many))
            self.assertEqual(host.entries(short), own + plain if own and size > dots else plain + own)
            host.candidates(short).clear()
            host.entries(short).clear()
            self.assertEqual(host.candidates(short), found)

    def test_labels_count_and_not_points(self):
        host = Host([LAB], dots=1)
        self.assertEqual(host.candidates(("a",)), [("a", "lab"), ("a",)])
        self.assertEqual(host.candidates(("a", "b")), [("a", "b"), ("a", "b", "lab")])
        self.assertEqual(Host([LAB], dots=0).entries(("a",)), [1, 0])


class TestAnswers(unittest.TestCase):

    def test_by_hand(self):
        names = shorts_upto(3, "ab")
        zones = [Zone({name: at for at, name in enumerate(names) if (at * step + 3) % 7 < share})
                 for step in (1, 2, 3, 5) for share in (0, 1, 2, 4)]
        for some in ([], [("a",)], [("b", "a"), ("a",)], [("a",), ("a", "a"), ("b",)]):
            for dots, stops in product([None, 0, 1, 2], [True, False]):
                host = Host(some, dots=dots, stops=stops)
                for zone, short in product(zones, shorts_upto(2, "ab")):
                    answer = answer_by_hand(host, zone, short)
                    self.assertEqual(host(zone, short), answer)
                    self.check_looked(host, zone, short, answer)

    def check_looked(self, host, zone, short, answer):
        looked = host.looked(zone, short)
        names = host.candidates(short)
        self.assertEqual(looked, [(name, zone.state(name)) for name in names[:len(looked)]])
        last = ["found", "empty"] if host.stops else ["found"]
        self.assertFalse([state for _, state in looked[:-1] if state in last])
        if len(looked) < len(names):
            self.assertIn(looked[-1][1], last)
        if answer is not None:
            self.assertEqual(looked[-1], (answer[0], "found"))
        looked.append(None)
        self.assertNotEqual(host.looked(zone, short), looked)

    def test_stops_at_an_empty_name(self):
        zone = Zone({("x", "db", "lab"): 1, ("db", "house"): 2})
        goes, stops = Host([LAB, HOUSE]), Host([LAB, HOUSE], stops=True)
        self.assertEqual(goes(zone, ("db",)), (("db", "house"), 2))
        self.assertIs(stops(zone, ("db",)), None)
        self.assertEqual(goes.looked(zone, ("db",)), [(("db", "lab"), "empty"), (("db", "house"), "found")])
        self.assertEqual(stops.looked(zone, ("db",)), [(("db", "lab"), "empty")])

    def test_goes_over_what_is_empty_at_the_end(self):
        zone = Zone({("x", "db", "house"): 1})
        self.assertEqual(Host([LAB, HOUSE]).looked(zone, ("db",)), [(("db", "lab"), "lost"), (("db", "house"), "empty")])
        self.assertIs(Host([LAB, HOUSE])(zone, ("db",)), None)

    def test_no_candidates(self):
        self.assertEqual(Host([]).looked(Zone({("a",): 1}), ("a",)), [])
        self.assertIs(Host([])(Zone({("a",): 1}), ("a",)), None)
        self.assertEqual(Host([], dots=4)(Zone({("a",): 1}), ("a",)), (("a",), 1))

    def test_nothing_changes(self):
        zone, host = Zone({("a", "lab"): 1}), Host([LAB])
        for _ in range(2):
            self.assertEqual(host(zone, ("a",)), (("a", "lab"), 1))
        self.assertTrue(zone == Zone({("a", "lab"): 1}) and host == Host([LAB]))
        zone.take(("a", "lab"))
        self.assertIs(host(zone, ("a",)), None)


class TestDevolved(unittest.TestCase):

    def test_all(self):
        self.assertEqual(devolved(("a", "b", "c"), 1), [("a", "b", "c"), ("b", "c"), ("c",)])
        self.assertEqual(devolved(("a", "b", "c"), 2), [("a", "b", "c"), ("b", "c")])
        self.assertEqual(devolved(("a", "b", "c"), 3), [("a", "b", "c")])
        self.assertEqual(devolved(("a", "b", "c"), 4), [])
        self.assertEqual(devolved(("a",), 1), [("a",)])
        self.assertEqual(devolved(("a", "b"), 1), [("a", "b"), ("b",)])
        self.assertEqual(Host(devolved(("lab", "house"), 1)).candidates(("db",)),
                         [("db", "lab", "house"), ("db", "house")])
