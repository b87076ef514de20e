"""Reduced rows and what they answer, [51] with [5]."""

import unittest
from itertools import product
from random import Random

from byhand import answer_by_hand, drawn_facts, drawn_host, ends_with, row_by_hand, zones_near
from listnames.errors import NoAnswer
from listnames.facts import Facts
from listnames.hosts import Host
from listnames.rows import answers, reduced, zone_for
from listnames.zones import Zone
from things import odd_values, shorts_upto

A, B, AB, BA = ("a",), ("b",), ("a", "b"), ("b", "a")
LISTS = [[], [A], [A, B], [B, AB], [AB, B], [A, AB, B], [B, A, AB, BA, ("a", "a", "b")], [("b", "b"), B, ("b", "b", "b")]]
FACTS = [Facts([], []), Facts([AB], []), Facts([], [AB]), Facts([("b", "a", "b"), ("a", "a")], [("a", "a", "b"), ("b", "b")]),
         Facts([BA, ("a", "b", "a", "b")], [("b", "b")]), Facts([], [B]), Facts([A], [B]),
         Facts([("a", "b"), ("b", "a"), ("a", "a", "a"), ("b", "a", "a", "b")], [("b", "b", "b"), ("c",)])]


class TestReduced(unittest.TestCase):

    def test_by_hand(self):
        for some, dots, stops, facts in product(LISTS, [None, 0, 1, 2, 3, 4], [True, False], FACTS):
            host = Host(some, dots=dots, stops=stops)
            for short in shorts_upto(4, "ab")[::1 if len(some) < 4 else 3]:
                self.assertEqual(reduced(host, facts, short), row_by_hand(host, facts, short))

    def test_drawn(self):
        random = Random(51)
        for _ in range(1500):
            host, facts = drawn_host(random, 5, "abc"), drawn_facts(random, 4, 8, "abc")
            for _ in range(5):
                short = tuple(random.choice("abcd") for _ in range(random.randint(1, 12)))
                self.assertEqual(reduced(host, facts, short), row_by_hand(host, facts, short))

    def test_under_barred_names(self):
        host = Host([A, ("c", "b"), ("b",)], dots=0)
        facts = Facts([], [("c", "b"), ("d", "e", "a")])
        self.assertEqual(reduced(host, facts, ("x",)), [("x",), ("x", "a"), ("x", "b")])
        self.assertEqual(reduced(host, facts, ("x", "d", "e")), [("x", "d", "e"), ("x", "d", "e", "b")])
        self.assertEqual(reduced(host, facts, ("c",)), [("c",), ("c", "a")])
        self.assertEqual(reduced(host, Facts([], [("x",), A, B]), ("x",)), [])

    def test_beneath_earlier_ones_that_are_left(self):
        short, ahead, behind = ("b",), [A, BA], [BA, A]
        self.assertEqual(reduced(Host(ahead, stops=True), FACTS[0], short), [("b", "a")])
        self.assertEqual(reduced(Host(ahead), FACTS[0], short), [("b", "a"), ("b", "b", "a")])
        self.assertEqual(reduced(Host(behind, stops=True), FACTS[0], short), [("b", "b", "a"), ("b", "a")])
        self.assertEqual(reduced(Host(ahead, stops=True), FACTS[0], A), [("a", "a"), ("a", "b", "a")])
        own = Host([("x",), ("y",)], dots=1, stops=True)
        self.assertEqual(reduced(own, FACTS[0], ("x", "x")), [("x", "x"), ("x", "x", "y")])
        self.assertEqual(reduced(own, FACTS[0], ("x",)), [("x", "x"), ("x", "y"), ("x",)])

    def test_behind_sure_ones(self):
        for stops in (True, False):
            host = Host([A, B, ("c",)], dots=4, stops=stops)
            self.assertEqual(reduced(host, Facts([("x", "b")], []), ("x",)), [("x", "a"), ("x", "b")])
            self.assertEqual(reduced(host, Facts([("x", "b"), ("x", "a")], []), ("x",)), [("x", "a")])
            self.assertEqual(len(reduced(host, Facts([("x", "b")], []), ("y",))), 4)

    def test_behind_ones_that_must_be_there(self):
        facts = Facts([("y", "x", "b")], [])
        self.assertEqual(reduced(Host([A, B, ("c",)], stops=True), facts, ("x",)), [("x", "a"), ("x", "b")])
        self.assertEqual(reduced(Host([A, B, ("c",)]), facts, ("x",)), [("x", "a"), ("x", "b"), ("x", "c")])

    def test_lists_are_new_and_nothing_changes(self):
        host, facts = Host([A, B], dots=1, stops=True), Facts([("x", "b")], [("c",)])
        for call in (reduced, answers):
            found = call(host, facts, ("x",))
            kept = list(found)
            found.append(None)
            found.reverse()
            self.assertEqual(call(host, facts, ("x",)), kept)
        zone_for(host, facts, ("x",), None)[("zz",)] = 1
        self.assertEqual(len(zone_for(host, facts, ("x",), None)), 2)
        self.assertTrue(host == Host([A, B], dots=1, stops=True) and facts == Facts([("x", "b")], [("c",)]))


class TestAnswers(unittest.TestCase):

    def told(self, host, facts, short):
        """For each answer of a zone near the candidates, as a name or None, the fewest names of such a zone."""
        found = {}
        for zone in zones_near([host], facts, short):
            answer = answer_by_hand(host, zone, short)
            key = None if answer is None else answer[0]
            found[key] = min(found.get(key, 99), len(zone))
        return found

    def check(self, host, facts, short):
        told = self.told(host, facts, short)
        names = sorted(name for name in told if name is not None)
        self.assertEqual(answers(host, facts, short), names + [None] * (None in told))
        for name, many in told.items():
            zone = zone_for(host, facts, short, name)
            self.assertIsInstance(zone, Zone)
            self.assertEqual(len(zone), many)
            self.assertTrue(facts.fits(zone))
            answer = answer_by_hand(host, zone, short)
            self.assertEqual(None if answer is None else answer[0], name)
        others = [name for name in host.candidates(short) + [("zz",), short, ()] if name not in told]
        for name in others if None in told else others + [None]:
            with self.assertRaises(NoAnswer) as caught:
                zone_for(host, facts, short, name)
            self.assertIs(caught.exception.answer, name)

    def test_by_hand(self):
        for some, dots, stops, facts in product(LISTS[:6], [None, 0, 2], [True, False], FACTS):
            host = Host(some, dots=dots, stops=stops)
            for short in shorts_upto(3, "ab"):
                self.check(host, facts, short)

    def test_drawn(self):
        random = Random(510)
        for _ in range(700):
            self.check(drawn_host(random, 3, "abc"), drawn_facts(random, 4, 6, "abc"),
                       tuple(random.choice("abcd") for _ in range(random.randint(1, 4))))

    def test_none_though_the_last_one_is_sure(self):
        facts = Facts([("x", "b")], [("a", "x", "a"), ("b", "x", "a")])
        stops, goes = Host([A, B], stops=True), Host([A, B])
        self.assertEqual(answers(stops, facts, ("x",)), [("x", "a"), ("x", "b"), None])
        self.assertEqual(answers(goes, facts, ("x",)), [("x", "a"), ("x", "b")])
        zone = zone_for(stops, facts, ("x",), None)
        self.assertEqual([len(zone), zone.state(("x", "a")), zone.state(("x", "b"))], [2, "empty", "found"])
        self.assertTrue(facts.fits(zone))
        self.assertEqual(answers(Host([B, A], stops=True), facts, ("x",)), [("x", "b")])

    def test_names_ascending(self):
        host = Host([("c",), A, B], dots=4)
        self.assertEqual(answers(host, FACTS[0], ("b", "b")),
                         [("b", "b"), ("b", "b", "a"), ("b", "b", "b"), ("b", "b", "c"), None])
        self.assertEqual(answers(Host([]), FACTS[0], A), [None])

    def test_beneath_a_barred_name_there_is_nothing(self):
        host = Host([A], stops=True)
        self.assertEqual(answers(host, Facts([], [("x", "a")]), ("x",)), [None])
        self.assertEqual(answers(host, Facts([], [("y", "x", "a")]), ("x",)), [("x", "a"), None])

    def test_no_answer(self):
        host, facts = Host([A, B]), Facts([("x", "b")], [])
        for thing in odd_values() + [("x",), ("x", "c"), ["x", "a"], ("x", "a", "a"), (("x", "a"), 0), ()]:
            with self.assertRaises(NoAnswer) as caught:
                zone_for(host, facts, ("x",), thing)
            self.assertIs(caught.exception.answer, thing)

    def test_long_short_names(self):
        facts = Facts([("b",) * 4], [("c",)])
        host = Host([("b", "b", "b"), ("a", "c"), B], dots=4, stops=True)
        short = ("b",) * 12
        self.assertEqual(reduced(host, facts, short), [short])
        self.assertEqual(reduced(host, facts, A + short), [A + short, A + short + ("b", "b", "b"), A + short + B])
        self.assertEqual(len(zone_for(host, facts, short, short)), 2)
        self.assertTrue(ends_with(short, ("b", "b")))
