"""Which barred names make hosts alike, [62] with [5] and [50]."""

import unittest
from itertools import combinations
from random import Random

from byhand import answer_by_hand, drawn_facts, drawn_host, drawn_names, ends_with, like_host, row_by_hand
from listnames.agree import agreed, are_alike, is_parting
from listnames.bars import bars, bars_paper, is_bars_paper
from listnames.errors import BadFacts
from listnames.facts import Facts
from listnames.hosts import Host
from listnames.shorts import ending, every, longer, only, ray
from listnames.zones import Zone
from things import odd_values, shorts_upto, spoilt

A, B, C, AB = ("a",), ("b",), ("c",), ("a", "b")
PLAIN = Facts([], [])
SETS = [only([]), only([("b",), ("c", "c"), ("a", "c", "b"), ("d",)]), every(), every(), ray(("c", "b")), ending(C), longer(2)]


def subsets(names):
    return [list(some) for many in range(len(names) + 1) for some in combinations(sorted(names), many)]


def barred_too(facts, names):
    return Facts(facts.sure(), sorted({*facts.barred(), *names}))


def alike_by_hand(one, other, facts, typed):
    """Whether two hosts agree, as far as short names of at most four labels tell."""
    return all(row_by_hand(one, facts, short) == row_by_hand(other, facts, short)
               and (one.stops == other.stops or len(row_by_hand(one, facts, short)) < 2)
               for short in shorts_upto(4, "bcd") if short in typed)


def goods_by_hand(one, other, facts, typed, names):
    goods = [some for some in subsets(names) if are_alike(one, other, barred_too(facts, some), typed)]
    return sorted(some for some in goods if not any(set(less) < set(some) for less in goods))


def bads_by_hand(one, other, facts, typed, names):
    bads = [some for some in subsets(names) if not are_alike(one, other, barred_too(facts, some), typed)]
    return sorted(some for some in bads if not any(set(some) < set(more) for more in bads))


def drawn_cases(random, many):
    """Hosts, facts, typed names, and at most three names to bar, some barred already; no sure name is under one."""
    for _ in range(many):
        one, facts = drawn_host(random, 3, "bc"), drawn_facts(random, 2, 4, "bc")
        other = like_host(random, one, "bc")
        names = drawn_names(random, random.randint(0, 2), 1, 4, "bc") + facts.barred()[:1]
        if random.random() < 0.3:
            one = one.with_suffixes(drawn_names(random, 4, 1, 2, "bcd"))
            other = one.with_suffixes(one.suffixes()[:1])
            names = one.suffixes()[1:]
        for suffix in one.suffixes() + other.suffixes():
            names.insert(random.randint(0, len(names)), random.choice([(), (), ("b",)]) + suffix)
        names = [name for name in dict.fromkeys(names) if not any(ends_with(sure, name) for sure in facts.sure())]
        yield one, other, facts, random.choice(SETS), names[-3:]


class TestBars(unittest.TestCase):

    def test_by_hand(self):
        random = Random(620)
        sizes = {}
        for one, other, facts, typed, names in drawn_cases(random, 300):
            given = list(names)
            found = bars(one, other, facts, typed, names)
            self.assertEqual(found, goods_by_hand(one, other, facts, typed, names))
            self.assertEqual(names, given)
            for some in subsets(names):
                alike = any(set(good) <= set(some) for good in found)
                self.assertIs(are_alike(one, other, barred_too(facts, some), typed), alike)
                if alike:
                    self.assertTrue(alike_by_hand(one, other, barred_too(facts, some), typed))
            for good in found:
                self.assertFalse([name for name in good if name in facts.barred()])
                sizes[len(good)] = sizes.get(len(good), 0) + 1
        self.assertTrue(all(sizes.get(many, 0) > 3 for many in (0, 1, 2)), sizes)

    def test_order(self):
        one, other = Host([C, B]), Host([B, C])
        names = [("d", "c"), ("d", "b"), ("e", "d", "b")]
        self.assertEqual(bars(one, other, PLAIN, ending(("d",)), names), [[("d", "b")], [("d", "c")]])
        self.assertEqual(bars(one, other, PLAIN, only([("d",), ("e", "d")]), names), [[("d", "b")], [("d", "c")]])
        self.assertEqual(bars(one, other, PLAIN, only([("e", "d")]), names[::-1]),
                         [[("d", "b")], [("d", "c")], [("e", "d", "b")]])
        self.assertEqual(bars(one, other, PLAIN, every(), [C, ("x",), B]), [[B], [C]])
        one, other = Host([("y", "b"), C, ("z", "b")]), Host([C])
        self.assertEqual(bars(one, other, PLAIN, every(), [("z", "b"), C, ("y", "b")]), [[("y", "b"), ("z", "b")]])
        names = [("z", "m"), ("m",), ("a", "m")]
        one, other = Host([("a", "m"), ("z", "m")]), Host([])
        self.assertEqual(bars(one, other, PLAIN, every(), names), [[("a", "m"), ("z", "m")], [("m",)]])
        one, other = Host([("a", "m"), ("n", "m")]), Host([("n", "m")])
        goods, bads = bars_paper(one, other, PLAIN, every(), [("n", "m"), ("x",), ("a", "m")])
        self.assertEqual([goods, [some for some, _ in bads]], [[[("a", "m")]], [[("n", "m"), ("x",)]]])

    def test_none_and_all(self):
        one, other = Host([B]), Host([C])
        self.assertEqual(bars(one, other, PLAIN, every(), []), [])
        self.assertEqual(bars(one, one, PLAIN, every(), []), [[]])
        self.assertEqual(bars(one, one, PLAIN, every(), [B, C]), [[]])
        self.assertEqual(bars(one, other, PLAIN, every(), [B, C]), [[B, C]])
        self.assertEqual(bars(one, other, PLAIN, only([]), [B, C]), [[]])
        self.assertEqual(bars(one, other, PLAIN, every(), [("d", "b"), C]), [])
        self.assertEqual(bars(one, other, Facts([], [B]), every(), [B, C]), [[C]])
        self.assertEqual(bars(one, other, Facts([], [B, C]), every(), [B, C]), [[]])

    def test_five_barred_and_three_more(self):
        barred = [("v", sign) for sign in "abcde"]
        one, other = Host([("x",), ("y",), ("z",)]), Host([])
        names = [("z",), ("y",), ("x",)]
        self.assertEqual(bars(one, other, Facts([], barred), every(), names), [sorted(names)])
        goods, bads = bars_paper(one, other, Facts([], barred), every(), names)
        self.assertEqual([goods, len(bads)], [[sorted(names)], 3])
        self.assertIs(is_bars_paper(one, other, Facts([], barred), every(), names, goods, bads), True)

    def test_bad_facts(self):
        facts = Facts([("b", "c"), ("a", "d"), ("e",)], [A])
        one, other = Host([B]), Host([C])
        for names, least in [([("d",)], ("a", "d")), ([("e",), C], ("b", "c")), ([("x",), ("e",), A], ("e",)),
                             ([("b", "c"), ("a", "d")], ("a", "d"))]:
            for call in (lambda: bars(one, other, facts, every(), names), lambda: bars_paper(one, one, facts, every(), names),
                         lambda: is_bars_paper(one, other, facts, only([]), names, None, 5),
                         lambda: is_bars_paper(one, one, facts, every(), names, [[]], [])):
                with self.assertRaises(BadFacts) as caught:
                    call()
                self.assertEqual(caught.exception.name, least)

    def test_results_are_new(self):
        one, other, names = Host([B]), Host([C]), [C, B]
        bars(one, other, PLAIN, every(), names)[0].clear()
        goods, bads = bars_paper(one, other, PLAIN, every(), names)
        goods[0].clear()
        bads[0][0].append(None)
        bads[0][1][1][("x",)] = 1
        self.assertEqual(bars(one, other, PLAIN, every(), names), [[B, C]])
        goods, bads = bars_paper(one, other, PLAIN, every(), names)
        self.assertEqual([goods, [some for some, _ in bads]], [[[B, C]], [[B], [C]]])
        self.assertEqual(names, [C, B])


class TestPapers(unittest.TestCase):

    def test_paper(self):
        random = Random(621)
        for one, other, facts, typed, names in drawn_cases(random, 150):
            paper = bars_paper(one, other, facts, typed, names)
            self.assertIs(type(paper), tuple)
            goods, bads = paper
            self.assertEqual(goods, goods_by_hand(one, other, facts, typed, names))
            self.assertEqual([some for some, _ in bads], bads_by_hand(one, other, facts, typed, names))
            for some, found in bads:
                known = barred_too(facts, some)
                short, zone = found
                self.assertEqual(short, typed.missing(agreed(one, other, known)))
                self.assertTrue(known.fits(zone) and len(zone) <= len(facts.sure()) + 2)
                self.assertNotEqual(answer_by_hand(one, zone, short), answer_by_hand(other, zone, short))
            self.assertIs(is_bars_paper(one, other, facts, typed, names, goods, bads), True)

    def holds(self, one, other, facts, typed, names, goods, bads):
        """What is_bars_paper says of lists of sets, and of tuples of sets and tuples, by hand."""
        sets = subsets(names)
        for good in goods:
            if good not in sets or not are_alike(one, other, barred_too(facts, good), typed):
                return False
        for bad, found in bads:
            if bad not in sets or not is_parting(one, other, barred_too(facts, bad), typed, found):
                return False
        return all(any(set(good) <= set(some) for good in goods) or any(set(some) <= set(bad) for bad, _ in bads)
                   for some in sets)

    def others(self, random, one, other, facts, typed, names):
        """Papers in other orders, with things twice or left out, with other sets and other partings."""
        goods, bads = bars_paper(one, other, facts, typed, names)
        sets = subsets(names)
        yield goods[::-1], bads[::-1]
        yield goods + goods, bads + bads
        yield goods[1:], bads
        yield goods, bads[:-1]
        yield [some for some in sets if any(set(good) <= set(some) for good in goods)], bads
        yield goods + [some[::-1] for some in sets], bads
        yield goods + [random.choice(sets)], bads
        yield goods + [[("zz",)]], bads
        if bads:
            some, (short, zone) = random.choice(bads)
            for name in [("b",), ("c", "b"), ("d",), short]:
                yield goods, bads + [(some, (name, zone))]
            for name in [("b", "b"), ("d", "c"), ("q",) + short, *one.candidates(short)]:
                yield goods, bads + [(some, (short, zone | Zone({name: 3})))]
            for less in sets:
                yield goods, bads + [(less, (short, zone))]
                yield goods, [(less, (short, zone))] + [bad for bad in bads if bad[0] != some]

    def test_others(self):
        random = Random(622)
        seen = {True: 0, False: 0}
        for one, other, facts, typed, names in drawn_cases(random, 80):
            for goods, bads in self.others(random, one, other, facts, typed, names):
                holds = self.holds(one, other, facts, typed, names, goods, bads)
                self.assertIs(is_bars_paper(one, other, facts, typed, names, goods, bads), holds)
                seen[holds] += 1
        self.assertGreater(min(seen.values()), 300)

    def test_one_set_for_all(self):
        one, other = Host([B]), Host([C])
        self.assertIs(is_bars_paper(one, one, PLAIN, every(), [B, C], [[]], []), True)
        self.assertIs(is_bars_paper(one, one, PLAIN, every(), [B, C], [[B], [B, C], []], []), True)
        self.assertIs(is_bars_paper(one, one, PLAIN, every(), [B, C], [[B], [C]], []), False)
        self.assertIs(is_bars_paper(one, one, PLAIN, every(), [], [], []), False)
        found = (("x",), Zone({("x", "c"): 1}))
        names = [("d", "b"), ("d", "c")]
        self.assertIs(is_bars_paper(one, other, PLAIN, every(), names, [], [(sorted(names), found)]), True)
        self.assertIs(is_bars_paper(one, other, PLAIN, every(), names, [], [(names[:1], found), (names[1:], found)]), False)

    def test_spoilt(self):
        one, other, names = Host([B], stops=True), Host([C]), [C, ("d", "c"), B]
        goods, bads = bars_paper(one, other, PLAIN, every(), names)
        self.assertEqual([goods, [some for some, _ in bads]], [[[B, C]], [[B, ("d", "c")], [C, ("d", "c")]]])
        for thing in spoilt(goods):
            well = thing in ([[B, C]] * 2,)
            self.assertIs(is_bars_paper(one, other, PLAIN, every(), names, thing, bads), well, thing)
        for at, (some, found) in enumerate(bads):
            for thing in spoilt(some):
                changed = [*bads[:at], (thing, found), *bads[at + 1:]]
                self.assertIs(is_bars_paper(one, other, PLAIN, every(), names, goods, changed), False)
            for thing in spoilt(found):
                changed = [*bads[:at], (some, thing), *bads[at + 1:]]
                well = is_parting(one, other, Facts([], some), every(), thing)
                self.assertIs(is_bars_paper(one, other, PLAIN, every(), names, goods, changed), well)
            for thing in (list(bads[at]), (some,), (some, found, found), (some, *found), found):
                changed = [*bads[:at], thing, *bads[at + 1:]]
                self.assertIs(is_bars_paper(one, other, PLAIN, every(), names, goods, changed), False)
        self.assertIs(is_bars_paper(one, other, PLAIN, every(), names, tuple(goods), bads), False)
        self.assertIs(is_bars_paper(one, other, PLAIN, every(), names, goods, tuple(bads)), False)
        self.assertIs(is_bars_paper(one, other, PLAIN, every(), names, [tuple(goods[0])], bads), False)

    def test_any_values(self):
        one, other, names = Host([B]), Host([C]), [B, C]
        goods, bads = bars_paper(one, other, PLAIN, every(), names)
        for thing in odd_values():
            self.assertIs(is_bars_paper(one, other, PLAIN, every(), names, thing, bads), False)
            self.assertIs(is_bars_paper(one, other, PLAIN, every(), names, goods, thing), False)
            self.assertIs(is_bars_paper(one, other, PLAIN, every(), names, goods + [thing], bads), False)
            self.assertIs(is_bars_paper(one, other, PLAIN, every(), names, goods, bads + [thing]), False)
            self.assertIs(is_bars_paper(one, other, PLAIN, every(), names, goods + [[B, thing]], bads), False)
            self.assertIs(is_bars_paper(one, other, PLAIN, every(), names, goods, bads + [([B], thing)]), False)
            if thing != []:
                self.assertIs(is_bars_paper(one, other, PLAIN, every(), names, goods, bads + [(thing, bads[0][1])]), False)
