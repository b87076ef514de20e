"""Zones, [22]."""

import unittest

from listnames.errors import Full, NoName, Wrong
from listnames.names import is_beneath
from listnames.zones import Zone
from things import names_upto, odd_values

DB, LAB, WEB = ("db", "lab"), ("lab",), ("web",)


def many_names(many):
    return {("n" + "abcdefghijklmnopqrstuvwxyz"[at % 26] + "xyz"[at // 26],): at for at in range(many)}


def listed(zone):
    return [(name, zone[name]) for name in zone.names()]


class TestMaking(unittest.TestCase):

    def test_sizes(self):
        for many in (0, 1, 29, 30):
            self.assertEqual(len(Zone(many_names(many))), many)
        with self.assertRaises(Wrong) as caught:
            Zone(many_names(31))
        self.assertEqual(caught.exception.place, 0)

    def test_refused(self):
        wrong = odd_values() + [{thing: 1} for thing in odd_values() if hashable(thing)]
        wrong += [{DB: thing} for thing in odd_values() + [1000, "1", None, True]]
        wrong += [{DB: 1, (): 1}, {DB: 1, "a": 1}, [(DB, 1)], [DB], DB, (), []]
        for thing in wrong:
            with self.assertRaises(Wrong) as caught:
                Zone(thing)
            self.assertEqual(caught.exception.place, 0)

    def test_copies(self):
        values = {DB: 1}
        zone = Zone(values)
        values[WEB] = 2
        values[DB] = 7
        self.assertEqual(listed(zone), [(DB, 1)])
        zone[WEB] = 5
        self.assertEqual(values, {DB: 7, WEB: 2})

    def test_greatest_and_least_values(self):
        self.assertEqual(listed(Zone({DB: 0, WEB: 999})), [(DB, 0), (WEB, 999)])

    def test_long_names(self):
        name = ("a",) * 19000
        zone = Zone({name: 1})
        self.assertEqual([zone.state(name), zone.state(name[1:]), zone[name]], ["found", "empty", 1])


def hashable(thing):
    try:
        hash(thing)
    except TypeError:
        return False
    return True


class TestItems(unittest.TestCase):

    def test_value(self):
        zone = Zone({DB: 3})
        self.assertEqual(zone[DB], 3)
        for thing in odd_values() + [LAB, WEB, (), list(DB)]:
            with self.assertRaises(NoName) as caught:
                zone[thing]
            self.assertIs(caught.exception.name, thing)

    def test_in(self):
        zone = Zone({DB: 3})
        self.assertIs(DB in zone, True)
        for thing in odd_values() + [LAB, WEB, (), list(DB)]:
            self.assertIs(thing in zone, False)

    def test_put(self):
        zone = Zone({})
        zone[DB] = 3
        zone[WEB] = 0
        zone[DB] = 999
        self.assertEqual(listed(zone), [(DB, 999), (WEB, 0)])

    def test_put_refused(self):
        zone = Zone({DB: 3})
        for thing in odd_values() + [(), ["a"]]:
            for value in (1, None, [], True):
                with self.assertRaises(Wrong) as caught:
                    zone[thing] = value
                self.assertEqual(caught.exception.place, 0)
        for value in odd_values() + [1000, -1, DB]:
            with self.assertRaises(Wrong) as caught:
                zone[DB] = value
            self.assertEqual(caught.exception.place, 1)
        self.assertEqual(listed(zone), [(DB, 3)])

    def test_put_in_a_full_zone(self):
        zone = Zone(many_names(30))
        before = listed(zone)
        with self.assertRaises(Full) as caught:
            zone[DB] = 1
        self.assertEqual(caught.exception.limit, 30)
        with self.assertRaises(Wrong):
            zone[DB] = 1000
        self.assertEqual(listed(zone), before)
        name = zone.names()[3]
        zone[name] = 998
        self.assertEqual([len(zone), zone[name]], [30, 998])
        zone.take(name)
        zone[DB] = 1
        self.assertEqual([len(zone), name in zone, DB in zone], [30, False, True])

    def test_take(self):
        zone = Zone({DB: 3, WEB: 4})
        for thing in odd_values() + [LAB, (), list(DB)]:
            with self.assertRaises(NoName) as caught:
                zone.take(thing)
            self.assertIs(caught.exception.name, thing)
        self.assertEqual(zone.take(DB), 3)
        self.assertEqual(listed(zone), [(WEB, 4)])
        with self.assertRaises(NoName):
            zone.take(DB)

    def test_not_iterated(self):
        with self.assertRaises(TypeError):
            list(Zone({DB: 1}))


class TestQueries(unittest.TestCase):

    def setUp(self):
        self.zone = Zone({("b", "a"): 1, ("a",): 2, ("c", "b", "a"): 3, ("a", "b"): 4})

    def test_names(self):
        self.assertEqual(self.zone.names(), [("a",), ("a", "b"), ("b", "a"), ("c", "b", "a")])
        self.zone.names().append(1)
        self.zone.names().clear()
        self.assertEqual(len(self.zone.names()), 4)
        self.assertEqual(Zone({}).names(), [])

    def test_under(self):
        self.assertEqual(self.zone.under(("a",)), [("a",), ("b", "a"), ("c", "b", "a")])
        self.assertEqual(self.zone.under(("b", "a")), [("b", "a"), ("c", "b", "a")])
        self.assertEqual(self.zone.under(()), self.zone.names())
        self.assertEqual(self.zone.under(("c",)), [])
        self.zone.under(()).clear()
        self.assertEqual(len(self.zone.under(())), 4)

    def test_state(self):
        zone = Zone({("a", "b"): 0, ("b", "a", "b"): 0, ("a", "a", "a"): 5})
        for name in names_upto(4, "ab"):
            state = "found" if name in zone.names() else "lost"
            if state == "lost" and any(is_beneath(full, name) for full in zone.names()):
                state = "empty"
            self.assertEqual(zone.state(name), state)
        self.assertEqual(zone.state(("b",)), "empty")
        self.assertEqual(zone.state(("a", "b")), "found")
        self.assertEqual(Zone({}).state(()), "lost")

    def test_equal(self):
        self.assertIs(Zone({DB: 1, WEB: 2}) == Zone({WEB: 2, DB: 1}), True)
        self.assertIs(Zone({DB: 1}) == Zone({DB: 2}), False)
        self.assertIs(Zone({DB: 1}) == Zone({LAB: 1}), False)
        self.assertIs(Zone({DB: 1}) != Zone({DB: 1}), False)
        self.assertIs(Zone({}) == Zone({}), True)
        for thing in odd_values() + [{DB: 1}, [DB]]:
            self.assertIs(Zone({DB: 1}) == thing, False)
            self.assertIs(Zone({DB: 1}) != thing, True)

    def test_copied(self):
        other = self.zone.copied()
        self.assertTrue(other == self.zone)
        other[DB] = 1
        self.zone.take(("a",))
        self.assertEqual([len(other), len(self.zone), ("a",) in other, DB in self.zone], [5, 3, True, False])


class TestOperators(unittest.TestCase):

    def setUp(self):
        self.one = Zone({("a",): 1, ("b",): 2})
        self.other = Zone({("b",): 3, ("c",): 4})

    def test_new_zones(self):
        self.assertEqual(listed(self.one | self.other), [(("a",), 1), (("b",), 3), (("c",), 4)])
        self.assertEqual(listed(self.one & self.other), [(("b",), 2)])
        self.assertEqual(listed(self.one - self.other), [(("a",), 1)])
        self.assertEqual([len(self.one), len(self.other), self.one[("b",)], self.other[("b",)]], [2, 2, 2, 3])

    def test_results_stand_for_themselves(self):
        for found in (self.one | Zone({}), self.one & self.one, self.one - Zone({}), self.one | self.one):
            self.assertTrue(found == self.one)
            found[DB] = 1
            self.assertEqual(len(self.one), 2)

    def test_with_itself(self):
        self.assertEqual(listed(self.one - self.one), [])
        self.assertTrue(self.one & self.one == self.one)
        self.assertTrue(self.one | self.one == self.one)
        held = self.one
        self.one |= self.one
        self.assertIs(held, self.one)
        self.assertEqual(listed(held), [(("a",), 1), (("b",), 2)])
        full = Zone(many_names(30))
        full |= full
        self.assertEqual(len(full | full), 30)

    def test_in_place(self):
        held = self.one
        self.one |= self.other
        self.assertIs(held, self.one)
        self.assertEqual(listed(held), [(("a",), 1), (("b",), 3), (("c",), 4)])
        self.assertEqual(listed(self.other), [(("b",), 3), (("c",), 4)])
        held[("c",)] = 9
        self.assertEqual(self.other[("c",)], 4)

    def test_full(self):
        full = Zone(many_names(29))
        both = full | self.one.copied() & Zone({("a",): 0})
        self.assertEqual(len(both), 30)
        with self.assertRaises(Full) as caught:
            full | self.one
        self.assertEqual(caught.exception.limit, 30)
        before = listed(full)
        held = full
        with self.assertRaises(Full) as caught:
            full |= Zone({full.names()[0]: 999, ("a",): 1, ("b",): 1})
        self.assertEqual(caught.exception.limit, 30)
        self.assertIs(full, held)
        self.assertEqual(listed(full), before)
        self.assertEqual(len(self.one), 2)
        full |= Zone({full.names()[0]: 999, ("a",): 1})
        self.assertEqual([len(full), full[before[0][0]]], [30, 999])

    def test_other_operands(self):
        for thing in (1, None, {}, [DB]):
            with self.assertRaises(TypeError):
                self.one | thing
            with self.assertRaises(TypeError):
                self.one & thing
            with self.assertRaises(TypeError):
                self.one - thing
            with self.assertRaises(TypeError):
                self.one |= thing
