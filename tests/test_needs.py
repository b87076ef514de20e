"""Which entries are needed, [61] with [8]."""

import unittest
from itertools import combinations
from random import Random

from byhand import answer_by_hand, drawn_facts, drawn_host, pattern_by_hand, row_by_hand
from listnames.agree import are_alike
from listnames.facts import Facts
from listnames.hosts import Host
from listnames.needs import is_needed_paper, least_host, needed
from listnames.rows import zone_for
from listnames.shorts import ending, every, longer, only, ray
from listnames.zones import Zone
from things import odd_values, spoilt

A, B, AB = ("a",), ("b",), ("a", "b")
PLAIN = Facts([], [])
SETS = [only([]), only([("b",), ("c", "c"), ("a", "c", "b"), ("d",)]), every(), ray(("c", "b")), ~ending(B), longer(2), ray(B)]


def made_of(host, entries):
    """The host that is made of some of the entries of another one."""
    suffixes = [suffix for entry, suffix in enumerate(host.suffixes()) if entry in entries]
    return Host(suffixes, dots=host.dots if len(host.suffixes()) in entries else None, stops=host.stops)


def least_where_it_stays(host, facts, typed, entry):
    """The least member over a, b, c and d of at most four labels at which an entry stays."""
    for short in typed.members(4, ["a", "b", "c", "d"]):
        if entry in pattern_by_hand(host, facts, short):
            return short
    return None


def paper_for(host, facts, typed):
    """A paper with the least short names, and zones with few names."""
    return [(entry, short, zone_for(host, facts, short, dict(zip(host.entries(short), host.candidates(short)))[entry]))
            for entry, short in needed(host, facts, typed)]


class TestNeeded(unittest.TestCase):

    def test_by_hand(self):
        random = Random(610)
        for _ in range(300):
            host, facts = drawn_host(random, 5, "bc"), drawn_facts(random, 3, 6, "bc")
            for typed in random.sample(SETS, 3):
                found = needed(host, facts, typed)
                self.assertEqual(found, sorted(found))
                told = dict(found)
                self.assertEqual(len(told), len(found))
                for entry in range(len(host) + 1):
                    least = least_where_it_stays(host, facts, typed, entry)
                    if least is not None or (entry in told and len(told[entry]) <= 4):
                        self.assertEqual(told.get(entry), least)
                    if entry in told:
                        self.assertIn(told[entry], typed)
                        self.assertIn(entry, pattern_by_hand(host, facts, told[entry]))

    def test_least_host(self):
        random = Random(611)
        dropped = 0
        for _ in range(200):
            host, facts, typed = drawn_host(random, 4, "bc"), drawn_facts(random, 3, 6, "bc"), random.choice(SETS)
            entries = [entry for entry, _ in needed(host, facts, typed)]
            least = least_host(host, facts, typed)
            self.assertTrue(least == made_of(host, entries))
            self.assertTrue(are_alike(host, least, facts, typed))
            dropped += len(least) < len(host)
            every_entry = range(len(host) + (host.dots is not None))
            for many in range(len(every_entry) + 1):
                for some in combinations(every_entry, many):
                    alike = are_alike(host, made_of(host, some), facts, typed)
                    self.assertIs(alike, set(entries) <= set(some))
        self.assertGreater(dropped, 40)

    def test_nothing_typed(self):
        host = Host([A, B], dots=2, stops=True)
        self.assertEqual(needed(host, PLAIN, only([])), [])
        self.assertTrue(least_host(host, PLAIN, only([])) == Host([], stops=True))
        self.assertIs(is_needed_paper(host, PLAIN, only([]), []), True)
        self.assertEqual(needed(host, PLAIN, every()), [(0, ("a",)), (1, ("a",)), (2, ("a",))])

    def test_dots(self):
        host = Host([A], dots=1)
        facts = Facts([], [("z",)])
        self.assertTrue(least_host(host, facts, ending(("z",))) == Host([A]))
        self.assertTrue(least_host(host, Facts([], [A]), every()) == Host([], dots=1))
        self.assertTrue(least_host(host, facts, every()) == host)
        self.assertEqual(needed(Host([A]), PLAIN, every()), [(0, ("a",))])

    def test_never_too_many(self):
        typed = every()
        for _ in range(40):
            typed = typed + ("u", "v", "w", "b", "c", "b", "c", "b", "c", "b", "c")
        self.assertGreater(len(typed), 400)
        host = Host([("a", "b", "c"), ("c",), ("b", "c")], dots=4, stops=True)
        for some in (typed, ~typed, typed | ray(("c", "b"))):
            told = dict(needed(host, PLAIN, some))
            self.assertEqual(list(told), [entry for entry in range(4) if entry in told])
            self.assertTrue(are_alike(host, least_host(host, PLAIN, some), PLAIN, some))

    def test_nothing_changes(self):
        host, facts, typed = Host([A, B], dots=1), Facts([("x", "b")], [("c",)]), every()
        kept = needed(host, facts, typed)
        needed(host, facts, typed).clear()
        self.assertEqual(needed(host, facts, typed), kept)
        self.assertTrue(host == Host([A, B], dots=1) and facts == Facts([("x", "b")], [("c",)]) and typed == every())


class TestPapers(unittest.TestCase):

    def holds(self, host, facts, typed, thing):
        """What is_needed_paper says of a thing, by hand."""
        if type(thing) is not list or any(type(part) is not tuple or len(part) != 3 for part in thing):
            return False
        for entry, short, zone in thing:
            if type(entry) is not int or short not in typed or type(zone) is not Zone or not facts.fits(zone):
                return False
            answer = answer_by_hand(host, zone, short)
            candidates = dict(zip(host.entries(short), host.candidates(short)))
            if answer is None or candidates.get(entry) != answer[0]:
                return False
        return [entry for entry, _, _ in thing] == [entry for entry, _ in needed(host, facts, typed)]

    def check(self, host, facts, typed, thing):
        holds = self.holds(host, facts, typed, thing)
        self.assertIs(is_needed_paper(host, facts, typed, thing), holds)
        return holds

    def others(self, random, paper):
        """Papers with other short names, and with more names and less names in their zones."""
        for at, (entry, short, zone) in enumerate(paper):
            for name in [("b",), ("c", "c"), ("a", "c", "b"), ("c", "b"), ("d",), short + ("b",)]:
                yield [*paper[:at], (entry, name, zone), *paper[at + 1:]]
            for name in [("b",), ("z", "z"), ("c", "b"), ("z",) + short, short + ("b",), short + ("c", "b")]:
                yield [*paper[:at], (entry, short, zone | Zone({name: 3})), *paper[at + 1:]]
            for name in zone.names():
                less = zone.copied()
                less.take(name)
                yield [*paper[:at], (entry, short, less), *paper[at + 1:]]
            yield [*paper[:at], (entry + 1, short, zone), *paper[at + 1:]]
            yield paper[:at] + paper[at + 1:]
            yield paper[:at + 1] + paper[at:]
        yield random.sample(paper, len(paper))
        yield []

    def test_drawn(self):
        random = Random(612)
        seen = {True: 0, False: 0}
        for _ in range(150):
            host, facts, typed = drawn_host(random, 4, "bc"), drawn_facts(random, 3, 4, "bc"), random.choice(SETS)
            paper = paper_for(host, facts, typed)
            self.assertIs(is_needed_paper(host, facts, typed, paper), True)
            for thing in self.others(random, paper):
                seen[self.check(host, facts, typed, thing)] += 1
            for thing in spoilt(paper):
                seen[self.check(host, facts, typed, thing)] += 1
        self.assertGreater(min(seen.values()), 200)

    def test_other_short_names_and_zones(self):
        host = Host([A, B], stops=True)
        for first, second in [(("x",), ("y",)), (("b",), ("b",)), (("x", "y", "z"), ("q",) * 12)]:
            paper = [(0, first, Zone({first + A: 5, ("u",): 2})), (1, second, Zone({second + B: 999}))]
            self.assertIs(is_needed_paper(host, PLAIN, every(), paper), True)
            self.assertIs(is_needed_paper(host, PLAIN, every(), tuple(paper)), False)
            self.assertIs(is_needed_paper(host, PLAIN, every(), paper[::-1]), False)
            self.assertIs(is_needed_paper(host, PLAIN, only([first]), paper), first == second)
        self.assertEqual(row_by_hand(host, PLAIN, ("x",)), [("x", "a"), ("x", "b")])

    def test_any_values(self):
        host = Host([A, B])
        paper = [(0, ("x",), Zone({("x", "a"): 1})), (1, ("x",), Zone({("x", "b"): 1}))]
        self.assertIs(is_needed_paper(host, PLAIN, every(), paper), True)
        for thing in odd_values():
            if thing != []:
                self.assertIs(is_needed_paper(host, PLAIN, every(), thing), False)
            self.assertIs(is_needed_paper(host, PLAIN, every(), [paper[0], thing]), False)
            for at in range(3):
                part = list(paper[1])
                part[at] = thing
                self.assertIs(is_needed_paper(host, PLAIN, every(), [paper[0], tuple(part)]), False)
        for entry in (True, "1", 1 + 10 ** 30, -1, 2):
            self.assertIs(is_needed_paper(host, PLAIN, every(), [paper[0], (entry, *paper[1][1:])]), False)
        self.assertIs(is_needed_paper(host, PLAIN, every(), [(False, *paper[0][1:]), paper[1]]), False)
        self.assertIs(is_needed_paper(host, PLAIN, every(), [paper[0], list(paper[1])]), False)
