"""Facts, [50]."""

import unittest
from itertools import combinations

from listnames.errors import BadFacts, Wrong
from listnames.facts import Facts
from listnames.names import is_under
from listnames.zones import Zone
from things import odd_values, shorts_upto

A, B, AB, BA = ("a",), ("b",), ("a", "b"), ("b", "a")
EIGHT = [("x", sign) for sign in "hgfedcba"]
NAMES = shorts_upto(3, "ab")


def zones_upto(many):
    """All zones of at most so many names of at most two labels."""
    return [Zone({name: 5 for name in names}) for size in range(many + 1)
            for names in combinations(shorts_upto(2, "ab"), size)]


class TestMaking(unittest.TestCase):

    def test_copies(self):
        for make in (list, tuple):
            sure, barred = make([BA, A]), make([("c", "b"), AB])
            facts = Facts(sure, barred)
            if make is list:
                sure.clear()
                barred.append(A)
            self.assertEqual([facts.sure(), facts.barred()], [[A, BA], [AB, ("c", "b")]])
            facts.sure().append(B)
            facts.barred().clear()
            self.assertEqual([facts.sure(), facts.barred()], [[A, BA], [AB, ("c", "b")]])

    def test_greatest(self):
        facts = Facts([("s", sign) for sign in "dcba"], EIGHT)
        self.assertEqual([len(facts.sure()), facts.barred()], [4, sorted(EIGHT)])
        self.assertEqual(Facts([("a", "b", "c", "d")], [("d", "c", "b", "a")]).sure(), [("a", "b", "c", "d")])

    def wrong(self, place, sure, barred):
        with self.assertRaises(Wrong) as caught:
            Facts(sure, barred)
        self.assertEqual(caught.exception.place, place)

    def test_wrong(self):
        bad = odd_values() + [[A, A], (A, B, A), [()], [A, ()], [("a",) * 5], [list(A)], A, {A: 1}, {A}]
        bad += [[thing] for thing in odd_values()]
        for thing in bad + [[("s", sign) for sign in "abcde"]]:
            self.wrong(0, thing, [])
            self.wrong(0, thing, [A, A])
        for thing in bad + [EIGHT + [A]]:
            self.wrong(1, [], thing)
            self.wrong(1, [A], thing)

    def test_wrong_ahead_of_bad_facts(self):
        self.wrong(1, [A], [A, A])
        self.wrong(0, [A, A], [A])

    def test_bad_facts(self):
        for sure, barred, least in [([A], [A], A), ([BA, A], [A], A), ([BA, B], [A], BA), ([B, AB], [B], AB),
                                    ([("c",), ("b", "c"), ("a",)], [("c",)], ("b", "c")),
                                    ([B, ("a", "a", "c"), ("b", "d")], [("d",), ("a", "c")], ("a", "a", "c"))]:
            with self.assertRaises(BadFacts) as caught:
                Facts(sure, barred)
            self.assertEqual(caught.exception.name, least)
        self.assertEqual(Facts([A], [BA]).sure(), [A])


class TestQueries(unittest.TestCase):

    def setUp(self):
        self.facts = Facts([AB, ("a", "a", "a")], [BA, ("b", "b", "b")])

    def test_can_be(self):
        for name in NAMES:
            self.assertIs(self.facts.can_be(name), not is_under(name, BA) and name != ("b", "b", "b"))
        self.assertIs(Facts([], []).can_be(A), True)

    def test_must_be(self):
        for name in NAMES:
            self.assertIs(self.facts.must_be(name), name in [AB, B, A, ("a", "a"), ("a", "a", "a")])
        self.assertIs(Facts([], []).must_be(A), False)
        self.assertIs(Facts([A], []).must_be(()), True)

    def test_fits(self):
        for sure, barred in [([], []), ([AB], []), ([], [B]), ([A, AB], [BA]), ([B], [A, ("b", "b")])]:
            facts = Facts(sure, barred)
            for zone in zones_upto(4):
                fits = all(name in zone for name in sure)
                fits = fits and not any(is_under(name, top) for name in zone.names() for top in barred)
                self.assertIs(facts.fits(zone), fits)

    def test_zone(self):
        self.assertTrue(self.facts.zone() == Zone({AB: 0, ("a", "a", "a"): 0}))
        self.assertTrue(Facts([], [A]).zone() == Zone({}))
        self.facts.zone()[B] = 1
        self.assertEqual(len(self.facts.zone()), 2)
        self.assertIs(self.facts.fits(self.facts.zone()), True)

    def test_equal(self):
        lists = [[], [A], [B], [A, BA], [BA, A], [BA], [A, B], [AB, A], [("b", "b", "a"), A]]
        made = [Facts([], barred) for barred in lists] + [Facts([("c",)], barred) for barred in lists]
        made += [Facts([("c",), ("d",)], []), Facts([("d",), ("c",)], []), Facts([("a", "c")], [])]
        zones = zones_upto(2) + [Zone({("c",): 1}), Zone({("c",): 1, A: 1}), Zone({("c",): 1, B: 1})]
        zones += [Zone({name: 1, ("c",): 1}) for name in NAMES] + [Zone({("c",): 1, ("d",): 1}), Zone({("a", "c"): 1})]
        zones += [Zone({name: 1}) for name in NAMES]
        for one in made:
            for other in made:
                same = all(one.fits(zone) == other.fits(zone) for zone in zones)
                self.assertIs(one == other, same, (one.sure(), one.barred(), other.sure(), other.barred()))
                self.assertIs(one != other, not same)

    def test_equal_to_nothing_else(self):
        for thing in odd_values():
            self.assertIs(Facts([A], []) == thing, False)


class TestWithBarred(unittest.TestCase):

    def test_further(self):
        facts = Facts([A], [AB])
        names = [BA, AB]
        further = facts.with_barred(names)
        names.clear()
        self.assertEqual([further.sure(), further.barred()], [[A], [AB, BA]])
        self.assertEqual([facts.sure(), facts.barred()], [[A], [AB]])
        self.assertTrue(further == Facts([A], [BA, AB]))
        self.assertTrue(facts.with_barred([]) == facts)
        self.assertTrue(facts.with_barred([AB]) == facts)
        self.assertTrue(facts.with_barred([("c", "a", "b")]) == facts)

    def test_up_to_eight(self):
        facts = Facts([], EIGHT[:5])
        self.assertEqual(facts.with_barred(EIGHT[5:]).barred(), sorted(EIGHT))
        self.assertEqual(facts.with_barred(EIGHT).barred(), sorted(EIGHT))
        self.assertEqual(Facts([], EIGHT).with_barred(EIGHT[:3]).barred(), sorted(EIGHT))

    def test_bad_facts(self):
        facts = Facts([("b", "c"), ("a", "d"), ("e",)], [A])
        for names, least in [([("d",)], ("a", "d")), ([("e",), ("c",)], ("b", "c")), ([("e",), A], ("e",))]:
            with self.assertRaises(BadFacts) as caught:
                facts.with_barred(names)
            self.assertEqual(caught.exception.name, least)
        self.assertEqual([facts.sure(), facts.barred()], [[("a", "d"), ("b", "c"), ("e",)], [A]])
