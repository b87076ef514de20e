"""What a further name changes, [31]."""

import doctest
import unittest
from itertools import product

from listnames.changes import hidden, taken_over, who_can
from listnames.errors import There
from listnames.hosts import Host
from listnames.zones import Zone
from things import shorts_upto

EXAMPLE = """
>>> from listnames.changes import hidden, taken_over
>>> from listnames.hosts import Host
>>> from listnames.zones import Zone
>>> host = Host([("lab", "house"), ("house",)], stops=True)
>>> zone = Zone({("db", "house"): 7})
>>> [host.candidates(("db",)), host(zone, ("db",)), host.looked(zone, ("db",))]
[[('db', 'lab', 'house'), ('db', 'house')], (('db', 'house'), 7), [(('db', 'lab', 'house'), 'lost'), (('db', 'house'), 'found')]]
>>> [taken_over(host, zone, ("a", "db", "lab", "house")), hidden(host, zone, ("a", "db", "lab", "house"))]
[[('db',), ('a', 'db'), ('a', 'db', 'lab')], [('db',)]]
"""

LISTS = [[], [("a",)], [("b", "a"), ("a",)], [("a",), ("b", "a")], [("a",), ("a", "a"), ("b",), ("a", "b", "a")]]
HOSTS = [Host(some, dots=dots, stops=stops) for some in LISTS for dots in (None, 0, 1, 4) for stops in (True, False)]
SHORTS = shorts_upto(4, "ab")
ZONES = [{}, {("a",): 5}, {("a", "a"): 0, ("b", "b", "a"): 1}, {("b",): 2, ("a", "b", "a"): 3, ("a", "a", "a"): 9},
         {name: 0 for name in shorts_upto(2, "ab")}, {name: 7 for name in shorts_upto(4, "ab")[-16::3]}]


def around(host, values, name):
    """The short names of a few labels, with their answers ahead of the change and behind it."""
    ahead, behind = Zone(values), Zone({**values, name: 0})
    return [(short, host(ahead, short), host(behind, short)) for short in SHORTS]


class TestChanges(unittest.TestCase):

    def test_example(self):
        test = doctest.DocTestParser().get_doctest(EXAMPLE, {}, "changes", None, 0)
        self.assertEqual(doctest.DocTestRunner().run(test), (0, 7))

    def test_who_can(self):
        for host, name in product(HOSTS, SHORTS):
            found = [short for short in SHORTS if name in host.candidates(short)]
            self.assertEqual(who_can(host, name), found)
            who_can(host, name).append(None)
            self.assertEqual(who_can(host, name), found)

    def test_who_can_is_ascending_by_labels(self):
        host = Host([("a",), ("c", "b", "a"), ("b", "a")], dots=1)
        self.assertEqual(who_can(host, ("z", "c", "b", "a")),
                         [("z",), ("z", "c"), ("z", "c", "b"), ("z", "c", "b", "a")])
        self.assertEqual(who_can(Host([("a",)]), ("a",)), [])

    def test_taken_over_and_hidden(self):
        for host, values, name in product(HOSTS, ZONES, shorts_upto(3, "ab")):
            if name in values:
                continue
            zone = Zone(values)
            told = around(host, values, name)
            changed = [short for short, ahead, behind in told if ahead != behind]
            self.assertEqual(taken_over(host, zone, name), changed)
            lost = [short for short, ahead, behind in told if ahead is not None and behind is None]
            self.assertEqual(hidden(host, zone, name), lost)
            self.assertTrue(zone == Zone(values))

    def test_only_hosts_that_stop_hide(self):
        zone = Zone({("db", "house"): 7})
        name = ("a", "db", "lab")
        self.assertEqual(hidden(Host([("lab",), ("house",)], stops=True), zone, name), [("db",)])
        self.assertEqual(hidden(Host([("lab",), ("house",)]), zone, name), [])

    def test_there(self):
        zone = Zone({("a", "b"): 1})
        name = ("a", "b")
        for call in (taken_over, hidden):
            for host in HOSTS[:4]:
                with self.assertRaises(There) as caught:
                    call(host, zone, name)
                self.assertIs(caught.exception.name, name)

    def test_thirty_names(self):
        values = {("n" + sign, "lab"): 1 for sign in "abcdefghijklmnopqrstuvwxyzabcd"}
        values.update({("m" + sign, "lab"): 1 for sign in "abcd"})
        zone = Zone(values)
        self.assertEqual(len(zone), 30)
        host = Host([("house",), ("lab",)], stops=True)
        self.assertEqual(taken_over(host, zone, ("na", "house")), [("na",)])
        self.assertEqual(taken_over(host, zone, ("x", "na", "house")), [("na",), ("x", "na")])
        self.assertEqual(hidden(host, zone, ("x", "na", "house")), [("na",)])
        self.assertTrue(zone == Zone(values))

    def test_results_are_new(self):
        host, zone = Host([("lab",)], stops=True), Zone({})
        for call in (taken_over, hidden):
            found = call(host, zone, ("a", "lab"))
            found.append(None)
            self.assertEqual(call(host, zone, ("a", "lab")), found[:-1])
