"""The members of sets of short names, [41]."""

import doctest
import inspect
import unittest
from itertools import product
from random import Random

from listnames.shorts import Shorts, ending, every, longer, only, over, ray
from test_shorts import FEW, LABELS, flags, short_key, simple_sets, some_set

EXAMPLE = """
>>> from listnames.shorts import ending, longer, only, over, ray
>>> dead = ray(("a", "b"))
>>> [list(dead.members(3, ["a", "b"])), dead.count(40, ["a", "b"]), len(dead), dead.labels()]
[[('b',), ('a', 'b'), ('b', 'a', 'b')], 1, 4, ['a', 'b']]
>>> [(~ending(("b",))).least(), (dead & longer(1)).least(), (ray(("a",)) & dead).longest()]
[('a',), ('a', 'b'), 0]
>>> [(dead + ("c",)) // ("c",) == dead, (ray(("a", "b", "a")) & ray(("b", "a"))).longest()]
[True, 3]
"""


def some_sets():
    random = Random(11)
    return simple_sets() + [some_set(random, 1 + turn % 4) for turn in range(150)]


class TestMembers(unittest.TestCase):

    def test_example(self):
        test = doctest.DocTestParser().get_doctest(EXAMPLE, {}, "shorts", None, 0)
        self.assertEqual(doctest.DocTestRunner().run(test), (0, 5))

    def test_is_a_generator(self):
        self.assertTrue(inspect.isgeneratorfunction(Shorts.members))
        self.assertTrue(inspect.isgenerator(every().members(1, ["a"])))

    def test_against_a_listing(self):
        listing = sorted(FEW[1:], key=short_key)
        for told in some_sets():
            for many, labels in product(range(5), (["b", "a", "aa"], ["a", "b"], ["aa"], [])):
                found = [name for name in listing if len(name) <= many and told.has(name)
                         and all(label in labels for label in name)]
                self.assertEqual(list(told.shorts.members(many, labels)), found, told.word)
                if many:
                    here = [name for name in found if len(name) == many]
                    self.assertEqual(told.shorts.count(many, labels), len(here), told.word)

    def test_up_to_six(self):
        self.assertEqual(len(list(every().members(6, ["b", "a", "c"]))), 3 + 9 + 27 + 81 + 243 + 729)
        self.assertEqual(list(every().members(0, ["a"])), [])
        found = list(ending(("b", "a")).members(6, ["a", "b"]))
        self.assertEqual(found, sorted(found, key=short_key))
        self.assertEqual(len(found), 1 + 2 + 4 + 8 + 16)

    def test_left_early(self):
        shorts = every()
        walk = shorts.members(6, list("abcdefghij"))
        self.assertEqual([next(walk) for _ in range(3)], [("a",), ("b",), ("c",)])
        walk.close()
        self.assertEqual(next(shorts.members(6, ["z"])), ("z",))

    def test_two_walks_by_turns(self):
        shorts = ending(("a",)) | ray(("b",))
        one, other = shorts.members(4, ["a", "b"]), shorts.members(4, ["b", "a"])
        found = list(shorts.members(4, ["a", "b"]))
        self.assertEqual(next(one), found[0])
        for at, name in enumerate(found):
            self.assertEqual(next(other), name)
            self.assertEqual(next(one, None), (found + [None])[at + 1])
        self.assertEqual(list(other), [])

    def test_the_list_of_labels_may_be_changed(self):
        labels = ["b", "a"]
        walk = every().members(2, labels)
        found = [next(walk)]
        labels.clear()
        self.assertEqual(found + list(walk), list(every().members(2, ["a", "b"])))
        labels = ["b", "a"]
        list(every().members(2, labels))
        every().count(2, labels)
        self.assertEqual(labels, ["b", "a"])


class TestNumbers(unittest.TestCase):

    def test_count_of_forty_labels(self):
        ten = list("abcdefghij")
        self.assertEqual(every().count(40, ten), 10 ** 40)
        self.assertEqual(ending(("a", "b")).count(40, ten), 10 ** 38)
        self.assertEqual(ending(("z",)).count(40, ten), 0)
        self.assertEqual((~ray(("a", "b", "c"))).count(40, ten), 10 ** 40 - 1)
        self.assertEqual(ray(("a", "b", "z")).count(2, ten), 0)
        self.assertEqual(over(["a", "b", "z"]).count(40, ten), 2 ** 40)
        self.assertEqual((over(["a", "b"]) | over(["b", "c"])).count(40, ten), 2 ** 41 - 1)
        self.assertEqual(longer(20).count(20, ten), 0)
        self.assertEqual(longer(20).count(21, ten), 10 ** 21)
        self.assertEqual(every().count(40, []), 0)

    def test_longest(self):
        for shorts, many in [(only([]), 0), (over([]), 0), (~every(), 0), (only([("a",)]), 1), (every(), None),
                             (only([("a",), ("b", "c", "d")]), 3), (longer(20), None), (~longer(20), 20),
                             (~longer(0), 0), (ray(("a",)), None), (over(["a"]), None), (ray(("a",)) & longer(7), None),
                             (over(["a"]) & over(["b"]), 0), (over(["a"]) - ray(("a",)), 0),
                             (ray(("a", "b", "a")) & ray(("b", "a")), 3), (ending(("a",)), None),
                             (only([("a",) * 498]), 498), (ending(("a",) * 498), None)]:
            self.assertEqual(shorts.longest(), many)

    def test_longest_of_many(self):
        for told in some_sets():
            cut = told.shorts & ~longer(4)
            sizes = [len(name) for name in FEW if told.has(name)]
            self.assertEqual(cut.longest(), max(sizes, default=0), told.word)
            if told.shorts.longest() is None:
                self.assertTrue(told.shorts & longer(20), told.word)
            else:
                self.assertFalse(told.shorts - ~longer(20), told.word)


class TestComparing(unittest.TestCase):

    def test_least(self):
        for shorts, name in [(every(), ("a",)), (only([]), None), (ending(("b",)), ("b",)), (longer(2), ("a",) * 3),
                             (longer(1) - over(["a"]), ("a", "aa")), (~over(["a", "b"]), ("aa",)),
                             (only([("b",), ("a", "a")]), ("b",)), (only([("b", "a"), ("a", "b")]), ("a", "b")),
                             (ending(("c",)) - only([("c",)]), ("a", "c")), (only([("zz",), ("zy",)]), ("zy",)),
                             (every() - only([("a" * size,) for size in range(1, 9)]), ("aaaaaaab",)),
                             (only([("b",) * 498]), ("b",) * 498)]:
            self.assertEqual(shorts.least(), name)

    def test_least_of_many(self):
        for told in some_sets():
            found = sorted([name for name in FEW if told.has(name)], key=short_key)
            if found:
                self.assertEqual(told.shorts.least(), found[0], told.word)
            else:
                self.assertFalse(told.shorts & ~longer(4), told.word)

    def test_within_and_missing(self):
        sets = some_sets()
        for one, other in zip(sets, sets[3:] + sets[:3]):
            found = sorted([name for name in FEW if one.has(name) and not other.has(name)], key=short_key)
            rest = one.shorts - other.shorts
            self.assertEqual(one.shorts.missing(other.shorts), found[0] if found else rest.least(), one.word)
            self.assertIs(one.shorts.within(other.shorts), not rest, one.word)
            self.assertIs((one.shorts & other.shorts).within(one.shorts), True, one.word)
            self.assertIs(one.shorts.missing(one.shorts), None, one.word)

    def test_missing_is_the_least(self):
        self.assertEqual(every().missing(~only([("b", "a"), ("a", "c")])), ("a", "c"))
        self.assertEqual(every().missing(over(LABELS)), ("aaa",))
        self.assertEqual(every().missing(over(["a", "b"]) | ending(("aa",))), ("aaa",))
        self.assertIs(only([]).missing(only([])), None)
        self.assertIs(only([]).within(only([])), True)
        self.assertIs(ray(("a", "b")).within(over(["a", "b"])), True)
        self.assertEqual(over(["a", "b"]).missing(ray(("a", "b"))), ("a",))

    def test_with_more_classes_than_may_be_made(self):
        one, other = flags(range(8), 20), flags(range(8, 16), 20)
        least = min([name for name in FEW if name in one and name not in other], key=short_key)
        self.assertEqual(one.missing(other), least)
