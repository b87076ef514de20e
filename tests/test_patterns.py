"""Where entries stay, [52]."""

import doctest
import unittest
from itertools import product
from random import Random

from byhand import drawn_facts, drawn_host, pattern_by_hand
from listnames.errors import NoEntry
from listnames.facts import Facts
from listnames.hosts import Host
from listnames.names import ray_end
from listnames.patterns import patterns, stays
from listnames.shorts import Shorts, ending, every, longer, only, ray
from things import odd_values, shorts_upto

EXAMPLE = """
>>> from listnames.facts import Facts
>>> from listnames.hosts import Host
>>> from listnames.patterns import patterns, stays
>>> from listnames.rows import answers, reduced
>>> from listnames.shorts import ray
>>> host, plain = Host([("house",), ("lab", "house")], stops=True), Facts([], [])
>>> [reduced(host, plain, ("db",)), reduced(host, plain, ("lab", "lab"))]
[[('db', 'house'), ('db', 'lab', 'house')], [('lab', 'lab', 'house')]]
>>> [stays(host, plain, 1) == ~ray(("lab",)), patterns(host, plain)[0][0], patterns(host, plain)[1][0]]
[True, (0,), (0, 1)]
>>> answers(host, Facts([("x", "db", "house")], [("lab", "house")]), ("db",))
[('db', 'house'), None]
"""
A, B, AB = ("a",), ("b",), ("a", "b")
PLAIN = Facts([], [])
SHORTS = shorts_upto(4, "ab") + [("c",), ("c", "a"), ("a", "c"), ("b", "c", "b"), ("c", "a", "b", "a")]


def long_names(random, labels):
    """Short names of many labels: drawn ones, and rays with a label or two that are none of theirs."""
    found = [tuple(random.choice(labels) for _ in range(size)) for size in (6, 11, 40)]
    for _ in range(6):
        part = tuple(random.choice(labels) for _ in range(random.randint(1, 3)))
        name = ray_end(part, random.randint(5, 40))
        found.append(name)
        at = random.randrange(len(name))
        found.append(name[:at] + (random.choice(labels),) + name[at + 1:])
    return found


class TestPatterns(unittest.TestCase):

    def check(self, host, facts, shorts):
        own = len(host)
        sets = [stays(host, facts, entry) for entry in range(own + 1)]
        told = patterns(host, facts)
        self.assertEqual([entries for entries, _ in told], sorted({entries for entries, _ in told}))
        for short in shorts:
            left = pattern_by_hand(host, facts, short)
            self.assertEqual([entry for entry in range(own + 1) if short in sets[entry]], sorted(left), short)
            self.assertEqual([entries for entries, some in told if short in some], [left], short)
        union = only([])
        for entries, some in told:
            self.assertIsInstance(some, Shorts)
            self.assertFalse(union & some)
            self.assertEqual(pattern_by_hand(host, facts, some.least()), entries)
            union = union | some
        self.assertTrue(union == every())
        for entry in range(own + 1):
            self.assertTrue(all(some.within(sets[entry] if entry in entries else ~sets[entry])
                                for entries, some in told))
        if host.dots is None:
            self.assertTrue(sets[own] == only([]))

    def test_example(self):
        test = doctest.DocTestParser().get_doctest(EXAMPLE, {}, "patterns", None, 0)
        self.assertEqual(doctest.DocTestRunner().run(test), (0, 9))

    def test_by_hand(self):
        lists = [[], [A], [A, AB], [AB, B], [B, AB], [B, ("b", "b"), ("a", "a", "b")], [A, ("b", "a"), B, AB, ("b", "a", "a")]]
        facts = [PLAIN, Facts([("a", "b", "a"), ("b", "b")], []), Facts([], [("a", "b", "a"), ("b", "b")]),
                 Facts([("b", "a", "b", "a"), ("a", "a")], [("b", "b"), ("a", "a", "b")])]
        for some, dots, stops, known in product(lists, [None, 0, 1, 3], [True, False], facts):
            self.check(Host(some, dots=dots, stops=stops), known, SHORTS)

    def test_drawn(self):
        random = Random(52)
        for labels in ["a", "ab", "ab", "abc", "abc"] * 40:
            host, facts = drawn_host(random, 5, labels), drawn_facts(random, 4, 8, labels)
            self.check(host, facts, SHORTS + long_names(random, labels + "d"))

    def test_rays(self):
        host = Host([("x",), ("a", "b", "x"), ("c", "x")], stops=True)
        self.assertTrue(stays(host, PLAIN, 0) == every())
        self.assertTrue(stays(host, PLAIN, 1) == ~ray(("a", "b")))
        self.assertTrue(stays(host, PLAIN, 2) == ~ray(("c",)))
        own = Host([("a", "a", "a"), ("b", "a")], dots=2, stops=True)
        self.assertTrue(stays(own, PLAIN, 0) == ~(ray(("a",)) & longer(2)))
        self.assertTrue(stays(own, PLAIN, 1) == ~(ray(("b", "a")) & longer(2)))

    def test_barred(self):
        host = Host([("x",), ("y", "x")], dots=0)
        facts = Facts([], [("b", "y", "x"), ("c",)])
        self.assertTrue(stays(host, facts, 0) == ~ending(("b", "y")))
        self.assertTrue(stays(host, facts, 1) == ~ending(("b",)))
        self.assertTrue(stays(host, facts, 2) == ~ending(("c",)) - ending(("b", "y", "x")))

    def test_sure(self):
        facts = Facts([("b", "a", "x")], [])
        for stops in (True, False):
            host = Host([("x",), ("z",)], stops=stops)
            cut = [("b", "a"), ("a",)] if stops else [("b", "a")]
            self.assertTrue(stays(host, facts, 1) == ~only(cut))
            self.assertEqual([entries for entries, _ in patterns(host, facts)], [(0,), (0, 1)])

    def test_order_of_entries(self):
        found = patterns(Host([("x",), ("y",)], dots=2), PLAIN)
        self.assertEqual([entries for entries, _ in found], [(0, 1, 2), (2, 0, 1)])
        self.assertTrue(found[1][1] == longer(2) and found[0][1] == ~longer(2))
        self.assertEqual(patterns(Host([]), PLAIN)[0][0], ())
        self.assertTrue(patterns(Host([]), PLAIN)[0][1] == every())

    def test_no_entry(self):
        for host in (Host([A, B]), Host([A, B], dots=1), Host([])):
            many = len(host)
            for thing in odd_values() + [many + 1, many + 2, -1, str(many), (0,), [0], A, "0"]:
                with self.assertRaises(NoEntry) as caught:
                    stays(host, PLAIN, thing)
                self.assertIs(caught.exception.entry, thing)
        self.assertTrue(stays(Host([A]), PLAIN, 1) == only([]))

    def test_never_too_many(self):
        random = Random(520)
        names = [tuple(random.choice("abcdefghij") for _ in range(4)) for _ in range(40)]
        for at in range(12):
            host = Host([name[:3] for name in names[at:at + 5]], dots=4, stops=True)
            facts = Facts([name for name in names[at:at + 4]], names[at + 10:at + 18])
            self.assertTrue(all(len(stays(host, facts, entry)) <= 500 for entry in range(6)))
            self.assertTrue(all(len(some) <= 500 for _, some in patterns(host, facts)))

    def test_results_are_new(self):
        host, facts = Host([A, AB], dots=1, stops=True), Facts([("x", "b")], [("c",)])
        kept = [entries for entries, _ in patterns(host, facts)]
        patterns(host, facts).clear()
        self.assertEqual([entries for entries, _ in patterns(host, facts)], kept)
        self.assertTrue(host == Host([A, AB], dots=1, stops=True) and facts == Facts([("x", "b")], [("c",)]))
