"""Whether hosts agree, and what parts them, [60] with [5], [6] and [7]."""

import doctest
import unittest
from itertools import permutations, product
from random import Random

from byhand import answer_by_hand, drawn_facts, drawn_host, drawn_names, like_host, part_by_hand, row_by_hand
from listnames.agree import agreed, are_alike, is_parting, parting, rays_agreed
from listnames.facts import Facts
from listnames.hosts import Host
from listnames.names import ray_end, root
from listnames.shorts import ending, every, longer, only, over, ray
from listnames.zones import Zone
from things import odd_values, shorts_upto, spoilt

EXAMPLE = """
>>> from listnames.agree import agreed, are_alike, parting, rays_agreed
>>> from listnames.facts import Facts
>>> from listnames.hosts import Host
>>> from listnames.needs import least_host, needed
>>> from listnames.shorts import every, longer, ray
>>> one, other, plain = Host([("x",), ("y", "x")], stops=True), Host([("x",)], stops=True), Facts([], [])
>>> [agreed(one, other, plain) == ray(("y",)), rays_agreed(one, other), parting(one, other, plain, every())[0]]
[True, [('y',)], ('a',)]
>>> [needed(one, plain, every()), needed(one, plain, ray(("y",))), least_host(one, plain, ray(("y",))) == other]
[[(0, ('a',)), (1, ('a',))], [(0, ('y',))], True]
"""
A, B, AB, BA = ("a",), ("b",), ("a", "b"), ("b", "a")
PLAIN = Facts([], [])
SETS = [only([]), only([A, ("b", "b"), ("c", "a", "b")]), every(), ray(BA), ~ending(B), longer(3), over(["a", "b"]) & longer(1)]
NAMES = shorts_upto(3, "ab")


def agree_by_hand(one, other, facts, short):
    """As [5] has it."""
    left, right = row_by_hand(one, facts, short), row_by_hand(other, facts, short)
    return left == right and (one.stops == other.stops or len(left) <= 1)


def drawn_pairs(random, many, suffixes, labels):
    """Hosts that differ in little or in all, with facts."""
    for _ in range(many):
        one = drawn_host(random, suffixes, labels)
        other = like_host(random, one, labels) if random.random() < 0.8 else drawn_host(random, suffixes, labels)
        if random.random() < 0.3:
            other = like_host(random, other, labels)
        yield one, other, drawn_facts(random, 4, random.choice([0, 3, 8]), labels)


class TestAgreed(unittest.TestCase):

    def test_example(self):
        test = doctest.DocTestParser().get_doctest(EXAMPLE, {}, "agree", None, 0)
        self.assertEqual(doctest.DocTestRunner().run(test), (0, 8))

    def test_against_all_zones_near(self):
        random = Random(60)
        seen = {True: 0, False: 0}
        for one, other, facts in drawn_pairs(random, 500, 2, "ab"):
            both = agreed(one, other, facts)
            for short in random.sample(NAMES, 5):
                many = len(set(one.candidates(short) + other.candidates(short)))
                parted = part_by_hand(one, other, facts, short, None if many <= 4 else 3)
                self.assertIs(short in both, not parted)
                self.assertEqual(part_by_hand(one, other, facts, short, 2), parted)
                self.assertEqual(agree_by_hand(one, other, facts, short), not parted)
                seen[parted] += 1
        self.assertGreater(min(seen.values()), 400)

    def test_against_rows(self):
        random = Random(61)
        for one, other, facts in drawn_pairs(random, 600, 5, "abc"):
            both = agreed(one, other, facts)
            self.assertLessEqual(len(both), 500)
            shorts = random.sample(NAMES, 6) + [tuple(random.choice("abcd") for _ in range(size)) for size in (4, 5, 9)]
            shorts += [ray_end(random.choice(NAMES), size) for size in (4, 6, 7, 11, 40)]
            for short in shorts:
                self.assertIs(short in both, agree_by_hand(one, other, facts, short))

    def test_all_pairs_of_short_lists(self):
        lists = [list(some) for many in range(3) for some in permutations([A, B, AB, ("b", "b")], many)]
        shorts = NAMES + [("c",), ("c", "a"), ("a", "a", "a", "a"), ("b",) * 7]
        for first, second, stops, dots in product(lists, lists, [(True, True), (True, False), (False, False)], [None, 1]):
            one, other = Host(first, dots=dots, stops=stops[0]), Host(second, stops=stops[1])
            both = agreed(one, other, PLAIN)
            self.assertEqual([short for short in shorts if short in both],
                             [short for short in shorts if agree_by_hand(one, other, PLAIN, short)])

    def test_one_that_stops(self):
        one, other = Host([A], stops=True), Host([A])
        self.assertTrue(agreed(one, other, PLAIN) == every())
        one, other = Host([A, B], stops=True), Host([A, B])
        self.assertTrue(agreed(one, other, PLAIN) == only([]))
        self.assertTrue(agreed(one, other, Facts([], [("c", "b"), ("d", "a")])) == ending(("c",)) | ending(("d",)))
        self.assertTrue(agreed(one, other, Facts([("x", "a")], [])) == only([("x",)]))
        self.assertTrue(agreed(one, other, Facts([("y", "x", "a")], [])) == only([("y", "x")]))

    def test_hosts_without_candidates(self):
        self.assertTrue(agreed(Host([]), Host([], stops=True), PLAIN) == every())
        self.assertTrue(agreed(Host([]), Host([], dots=0), PLAIN) == only([]))
        self.assertTrue(agreed(Host([]), Host([], dots=3), Facts([], [A, BA])) == ending(A))
        self.assertTrue(agreed(Host([A]), Host([A], dots=1), Facts([], [B])) == ending(B))


class TestPartings(unittest.TestCase):

    def holds(self, one, other, facts, typed, thing):
        """What is_parting says of a thing, by hand."""
        if type(thing) is not tuple or len(thing) != 2 or type(thing[1]) is not Zone:
            return False
        short, zone = thing
        names = zone.names()
        fits = set(facts.sure()) <= set(names) and all(facts.can_be(name) for name in names)
        return short in typed and fits and answer_by_hand(one, zone, short) != answer_by_hand(other, zone, short)

    def least(self, one, other, facts, typed):
        """The least short name over a, b, c and d, of at most four labels, at which two hosts part."""
        for short in typed.members(4, list("abcd")):
            if not agree_by_hand(one, other, facts, short):
                return short
        return None

    def test_drawn(self):
        random = Random(62)
        for one, other, facts in drawn_pairs(random, 250, 4, "bc"):
            for typed in random.sample(SETS, 3):
                found = parting(one, other, facts, typed)
                self.assertIs(are_alike(one, other, facts, typed), found is None)
                least = self.least(one, other, facts, typed)
                if found is None:
                    self.assertIs(least, None)
                    continue
                self.assertIs(type(found), tuple)
                self.assertTrue(least == found[0] or (least is None and len(found[0]) > 4))
                self.assertTrue(self.holds(one, other, facts, typed, found))
                self.assertLessEqual(len(found[1]), len(facts.sure()) + 2)
                self.assertIs(is_parting(one, other, facts, typed, found), True)

    def test_partings_changed_in_one_place(self):
        random = Random(63)
        seen = {True: 0, False: 0}
        for one, other, facts in drawn_pairs(random, 250, 3, "bc"):
            typed = random.choice(SETS)
            found = parting(one, other, facts, typed)
            if found is None:
                continue
            short, zone = found
            changed = [(name, zone) for name in [A, B, ("c",), ("b", "c"), short + B, short[1:]] if name]
            for name in zone.names():
                less = zone.copied()
                less.take(name)
                changed.append((short, less))
            for name in [B, ("c",), ("b", "c"), ("a",) + short, *one.candidates(short), *other.candidates(short)]:
                changed.append((short, zone | Zone({name: 7})))
            for thing in changed + spoilt(found):
                holds = self.holds(one, other, facts, typed, thing)
                self.assertIs(is_parting(one, other, facts, typed, thing), holds)
                seen[holds] += 1
        self.assertGreater(min(seen.values()), 200)

    def test_any_values(self):
        one, other = Host([A]), Host([B])
        zone = Zone({("x", "a"): 1})
        self.assertIs(is_parting(one, other, PLAIN, every(), (("x",), zone)), True)
        self.assertIs(is_parting(one, other, PLAIN, only([]), (("x",), zone)), False)
        self.assertIs(is_parting(one, other, Facts([B], []), every(), (("x",), zone)), False)
        self.assertIs(is_parting(one, other, Facts([], [A]), every(), (("x",), zone)), False)
        for thing in odd_values():
            self.assertIs(is_parting(one, other, PLAIN, every(), thing), False)
            self.assertIs(is_parting(one, other, PLAIN, every(), (("x",), thing)), False)
            self.assertIs(is_parting(one, other, PLAIN, every(), (thing, zone)), False)
        self.assertIs(is_parting(one, other, PLAIN, every(), [("x",), zone]), False)
        self.assertIs(is_parting(one, other, PLAIN, every(), (["x"], zone)), False)
        self.assertIs(is_parting(one, other, PLAIN, every(), (("x",), zone, zone)), False)
        many = Zone({**{("n" + sign, "z"): 0 for sign in "abcdefghijklmnopqrstuvwxyz"}, ("x", "a"): 1})
        self.assertIs(is_parting(one, other, PLAIN, every(), (("x",), many)), True)

    def test_typed_sets(self):
        one, other = Host([A, B]), Host([B, A])
        facts = Facts([], [("c", "b")])
        self.assertTrue(agreed(one, other, facts) == ending(("c",)))
        for typed, short in [(every(), A), (only([]), None), (ending(("c",)), None), (only([("c",), ("c", "c")]), None),
                             (only([("c",), ("d",)]), ("d",)), (longer(3), ("a",) * 4), (ray(("c",)), None),
                             (ray(("c", "b")), B), (ray(("c", "b")) & longer(2), ("b", "c", "b")),
                             (ray(("b", "c")) & longer(2), None)]:
            found = parting(one, other, facts, typed)
            self.assertEqual(None if found is None else found[0], short)
            self.assertIs(are_alike(one, other, facts, typed), found is None)

    def test_zones_are_new(self):
        one, other = Host([A, B]), Host([B, A])
        found = parting(one, other, PLAIN, every())
        found[1].take(found[1].names()[0])
        self.assertTrue(is_parting(one, other, PLAIN, every(), parting(one, other, PLAIN, every())))
        self.assertTrue(one == Host([A, B]) and other == Host([B, A]) and PLAIN == Facts([], []))

    def test_never_too_many(self):
        typed = every()
        for at in range(40):
            typed = typed + ("u", "v", "w", "x", "y", "z")[at % 3:] + ("b", "c")
        self.assertGreater(len(typed), 240)
        one, other = Host([("a", "b", "c"), ("c",)], dots=4, stops=True), Host([("c",), ("a", "b", "c")], dots=3, stops=True)
        for some in (typed, ~typed, typed | ray(("a", "b")), typed | longer(20)):
            found = parting(one, other, PLAIN, some)
            self.assertTrue(is_parting(one, other, PLAIN, some, found))
            self.assertIs(are_alike(one, one, PLAIN, some), True)
            self.assertIs(parting(one, one, PLAIN, some), None)

    def test_short_words(self):
        random = Random(7)
        for one, other, facts in drawn_pairs(random, 1200, 5, random.choice(["ab", "abc"])):
            found = parting(one, other, facts, every())
            if found is None:
                continue
            dots = [host.dots + 1 for host in (one, other) if host.dots is not None]
            many = max([0, *dots, *[len(name) for name in facts.sure() + facts.barred()]])
            longest = max([0, *[len(suffix) for suffix in one.suffixes() + other.suffixes()]])
            self.assertLessEqual(len(found[0]), max(many + 1, 2 * longest - 2))


class TestRays(unittest.TestCase):

    def rays_by_hand(self, one, other):
        """The rays of at most three labels on which two hosts agree at all members of many labels."""
        return [name for name in NAMES if root(name) == name
                and all(agree_by_hand(one, other, PLAIN, ray_end(name, many)) for many in range(20, 32))]

    def test_drawn(self):
        random = Random(64)
        infinite = 0
        for _ in range(1500):
            suffixes = drawn_names(random, 4, 1, 3, "ab")
            dots = random.choice([None, 0, 1, 2, 3, 4])
            one = Host(suffixes, dots=dots, stops=True)
            suffixes = list(suffixes)
            if suffixes and random.random() < 0.7:
                suffixes.pop(random.randrange(len(suffixes)))
            else:
                random.shuffle(suffixes)
            other = Host(suffixes, dots=dots, stops=True)
            if one == other:
                continue
            found = rays_agreed(one, other)
            self.assertEqual(found, self.rays_by_hand(one, other))
            longest = agreed(one, other, PLAIN).longest()
            self.assertIs(longest is None, found != [])
            infinite += found != []
            if not found:
                most = max(len(suffix) for suffix in one.suffixes() + suffixes)
                self.assertLessEqual(longest, max(dots or 0, 2 * most - 3))
        self.assertGreater(infinite, 100)

    def test_equal_lists(self):
        host = Host([A, ("c", "b", "a"), ("b", "b"), ("a", "b", "a", "b")[:3]], stops=True)
        self.assertEqual(rays_agreed(host, host), [A, B, ("a", "b"), ("c", "b"), ("a", "b", "a"), ("c", "b", "a")])
        self.assertEqual(rays_agreed(Host([], stops=True), Host([], stops=True)), [])

    def test_order_and_roots(self):
        one = Host([("x",), ("z", "z", "x"), ("a", "b", "x"), ("y", "x")], stops=True)
        other = Host([("x",)], stops=True)
        self.assertEqual(rays_agreed(one, Host([("x",), ("a", "b", "x"), ("y", "x")], stops=True)), [("z",)])
        self.assertEqual(rays_agreed(one, other), [])
        one = Host([("x",), ("b", "x"), ("y", "x"), ("a", "x"), ("b", "a", "x")], stops=True)
        other = Host([("x",), ("a", "x"), ("b", "a", "x")], stops=True)
        self.assertEqual(rays_agreed(one, other), [])

    def test_lists_are_new(self):
        one, other = Host([("x",), ("y", "x")], stops=True), Host([("x",)], stops=True)
        rays_agreed(one, other).clear()
        self.assertEqual(rays_agreed(one, other), [("y",)])
