"""Sets of short names, [40]."""

import unittest
from functools import reduce
from itertools import product
from operator import and_, or_, xor
from random import Random

from listnames.errors import TooMany
from listnames.names import is_under, ray_end
from listnames.shorts import Shorts, ending, every, longer, only, over, ray
from things import names_upto, odd_values, shorts_upto

# "aa" occurs in nothing of which a set is made here, and is the least such label beside "a" and "b".
LABELS = ["a", "aa", "b"]
FEW = names_upto(4, LABELS)
ALPHABET = "abcdefghijklmnopqrst"


def short_key(name):
    return (len(name), name)


class Told:
    """A set of short names together with a test of membership that was made along with it, on another way."""

    def __init__(self, shorts, test, word):
        self.shorts = shorts
        self.test = test
        self.word = word

    def has(self, name):
        return name != () and bool(self.test(name))


def told_every():
    return Told(every(), lambda w: True, "every()")


def told_only(names):
    return Told(only(names), lambda w: w in names, f"only({names})")


def told_ending(name):
    return Told(ending(name), lambda w: is_under(w, name), f"ending({name})")


def told_ray(name):
    return Told(ray(name), lambda w: ray_end(name, len(w)) == w, f"ray({name})")


def told_longer(many):
    return Told(longer(many), lambda w: len(w) > many, f"longer({many})")


def told_over(labels):
    return Told(over(labels), lambda w: all(label in labels for label in w), f"over({labels})")


def joins(one, other):
    return [Told(one.shorts & other.shorts, lambda w: one.has(w) and other.has(w), f"({one.word} & {other.word})"),
            Told(one.shorts | other.shorts, lambda w: one.has(w) or other.has(w), f"({one.word} | {other.word})"),
            Told(one.shorts - other.shorts, lambda w: one.has(w) and not other.has(w), f"({one.word} - {other.word})"),
            Told(one.shorts ^ other.shorts, lambda w: one.has(w) != other.has(w), f"({one.word} ^ {other.word})")]


def moves(one, name):
    size = len(name)
    return [Told(~one.shorts, lambda w: not one.has(w), f"~{one.word}"),
            Told(one.shorts // name, lambda w: one.has(w + name), f"({one.word} // {name})"),
            Told(one.shorts + name, lambda w: is_under(w, name) and one.has(w[:len(w) - size]),
                 f"({one.word} + {name})")]


def simple_sets():
    names = [("a",), ("b",), ("a", "a"), ("a", "b"), ("b", "a"), ("b", "a", "b"), ("a", "b", "a", "b")]
    found = [told_every(), told_ending(()), told_only([]), told_only(names), told_over([]), told_over(["a"])]
    found += [told_over(["b", "a"]), told_longer(0), told_longer(1), told_longer(3)]
    found += [told_only([name, ("b", "b")]) for name in names] + [told_only([("a",), ("a",)])]
    return found + [told_ending(name) for name in names] + [told_ray(name) for name in names]


def some_set(random, depth):
    if depth == 0:
        return random.choice(simple_sets())
    one = some_set(random, depth - 1)
    if random.random() < 0.4:
        return random.choice(moves(one, tuple(random.choices("ab", k=random.randrange(3)))))
    return random.choice(joins(one, some_set(random, random.randrange(depth))))


class TestSets(unittest.TestCase):

    def check(self, told):
        """Compare a set with its test at the short names of a few labels, and its classes and labels with these."""
        shorts, few = told.shorts, [name for name in FEW if len(name) <= 3]
        self.assertIsInstance(shorts, Shorts)
        for name in FEW:
            self.assertIs(name in shorts, told.has(name), (told.word, name))
        rows = {tuple([told.has(x + name) for x in few]) for name in few}
        self.assertLessEqual(len(rows), len(shorts), told.word)
        # The names of at most three labels reach and tell apart the classes where there are few.
        if len(shorts) <= 4:
            self.assertEqual(len(rows), len(shorts), told.word)
            self.assertEqual(shorts.labels(), self.labels(told, few), told.word)
        members = [name for name in FEW if told.has(name)]
        self.assertIs(bool(shorts), shorts.least() is not None, told.word)
        if members:
            self.assertIs(bool(shorts), True, told.word)
            self.assertEqual(shorts.least(), min(members, key=short_key), told.word)

    def labels(self, told, few):
        return [label for label in ("a", "b")
                if any(told.has(x + (label,) + y) != told.has(x + ("aa",) + y) for x in few for y in few)]

    def test_alone(self):
        for told in simple_sets():
            self.check(told)

    def test_by_one_operator(self):
        simple = simple_sets()
        for one, other in product(simple[::2], simple[1::2]):
            for told in joins(one, other):
                self.check(told)
        for one, name in product(simple, [(), ("a",), ("b",), ("b", "a"), ("a", "b", "a")]):
            for told in moves(one, name):
                self.check(told)

    def test_several_levels_deep(self):
        random = Random(7)
        for turn in range(400):
            self.check(some_set(random, 1 + turn % 4))

    def test_equal_by_another_way(self):
        random = Random(8)
        for turn in range(150):
            one, other = some_set(random, turn % 3).shorts, some_set(random, turn % 4).shorts
            for left, right in [(one & other, ~(~one | ~other)), (one | other, (one ^ other) ^ (one & other)),
                                (one - other, one & ~other), (one, ~~one), (one ^ one, only([])), (one, one // ()),
                                (one, one + ()), ((one + ("a", "b")) // ("b",), one + ("a",)), (one | ~one, every()),
                                ((one + ("b",)) // ("b",), one), ((one | other) // ("a",), one // ("a",) | other // ("a",)),
                                ((one ^ other) + ("a",), (one + ("a",)) ^ (other + ("a",)))]:
                self.assertIs(left == right, True)
                self.assertIs(left != right, False)
                self.assertEqual([len(left), left.labels(), bool(left)], [len(right), right.labels(), bool(right)])
            self.assertIs(one == other, not one ^ other)

    def test_one_short_name_apart(self):
        random = Random(9)
        for turn in range(150):
            one = some_set(random, turn % 4).shorts
            name = random.choice(FEW[1:] + [("a",) * 9, ("b", "zz")])
            other = one ^ only([name])
            self.assertIs(one == other, False)
            self.assertIs(name in one, name not in other)
            self.assertTrue(one ^ other == only([name]))

    def test_nothing_is_changed(self):
        one, other = ray(("a", "b")), over(["a"])
        for _ in range(2):
            self.assertTrue(one & other == only([]) and one | other == other | one and ~~one == one)
            self.assertEqual([len(one), len(other), one.labels(), other.labels()], [4, 3, ["a", "b"], ["a"]])
            one.labels().append("c")
            one.labels().clear()


class TestMaking(unittest.TestCase):

    def test_what_is_given_may_be_changed(self):
        names, labels = [("a",), ("b", "c")], ["a", "b"]
        one, other = only(names), over(labels)
        names[0] = ("z",)
        names.append(("y",))
        labels.clear()
        self.assertEqual([("a",) in one, ("z",) in one, ("y",) in one], [True, False, False])
        self.assertEqual([("a", "b") in other, ("z",) in other], [True, False])

    def test_classes(self):
        for shorts, many in [(every(), 2), (only([]), 1), (over([]), 1), (over(["a"]), 3), (longer(0), 2),
                             (longer(20), 22), (ending(()), 2), (ending(("a",)), 3), (ending(("a", "b", "a")), 5),
                             (ray(("a",)), 3), (ray(("a", "b", "a", "b")), 4), (only([("a",)]), 3), (~over(["a"]), 2),
                             (~ray(("a", "b")), 3), (only([("a",), ("b",)]), 3), (~only([("a",)]), 3)]:
            self.assertEqual(len(shorts), many)

    def test_classes_by_what_is_left(self):
        random = Random(12)
        for turn in range(60):
            shorts = some_set(random, 1 + turn % 4).shorts
            labels = shorts.labels() + ["zz"]
            found = [(False, shorts)]
            waiting = [()]
            while waiting:
                name = waiting.pop()
                for label in labels:
                    further = (label,) + name
                    left = (further in shorts, shorts // further)
                    if not any(left[0] == here[0] and left[1] == here[1] for here in found):
                        found.append(left)
                        waiting.append(further)
            self.assertEqual(len(found), len(shorts))

    def test_labels(self):
        self.assertEqual(every().labels(), [])
        self.assertEqual(only([("b",), ("a",)]).labels(), ["a", "b"])
        self.assertEqual((only([("b",), ("a",)]) | ~longer(1)).labels(), [])
        self.assertEqual((over(["b", "a"]) & ending(("c",))).labels(), [])
        self.assertEqual((over(["c", "b", "a"]) & ending(("c",))).labels(), ["a", "b", "c"])
        twenty = [sign + "x" for sign in ALPHABET]
        self.assertEqual(over(list(reversed(twenty))).labels(), twenty)
        self.assertEqual(only([(label,) for label in twenty]).labels(), twenty)

    def test_top_is_no_member(self):
        for shorts in (every(), ending(()), ~only([]), longer(0), ~ray(("a",)), over(["a"]) // (), every() // ("a",)):
            self.assertIs(() in shorts, False)
            self.assertIs(bool(shorts), True)

    def test_any_value_as_member(self):
        for shorts in (every(), only([("a",)]), ~only([("a",)]), over(["a"])):
            for thing in odd_values() + [(), "a", ["a"], (("a",),)]:
                self.assertIs(thing in shorts, False)
        self.assertIs(("a",) * 19000 in over(["a"]), True)
        self.assertIs(("a",) * 19000 + ("b",) in over(["a"]), False)

    def test_equal_to_nothing_else(self):
        for thing in odd_values()[:-3] + [[], Shorts, True]:
            self.assertIs(only([]) == thing, False)
            self.assertIs(only([]) != thing, True)

    def test_other_operands(self):
        for act in (lambda one, other: one & other, lambda one, other: one | other, lambda one, other: one - other,
                    lambda one, other: one ^ other):
            with self.assertRaises(TypeError):
                act(every(), [("a",)])


def flags(places, share):
    """A set with a class for each set of labels at these places of the alphabet that occur, and few others."""
    letters = ALPHABET[:share]
    return reduce(xor, [over([label for label in letters if label != letters[at]]) for at in places])


class TestTooMany(unittest.TestCase):

    def refused(self, make):
        with self.assertRaises(TooMany) as caught:
            make()
        self.assertEqual(caught.exception.limit, 500)

    def test_functions(self):
        name = ("a", "b") * 249
        lone = tuple("a" + first + second for first in "abcdefghijklmnopqrstuvwxyz" for second in ALPHABET)
        for long, other in ((name, ("b",) + name), (lone[:498], lone[:499])):
            self.assertEqual([len(ending(long)), len(only([long]))], [500, 500])
            self.refused(lambda: ending(other))
            self.refused(lambda: only([other]))
            self.refused(lambda: only([("z",), other]))
            self.refused(lambda: only([other, long]))
        self.assertEqual(len(ray(lone[:498])), 500)
        self.refused(lambda: ray(lone[:499]))
        self.assertEqual(len(ray(name * 3)), 4)

    def test_many_names(self):
        names = [tuple(label + sign for sign in "abcdefghijkl") for label in ALPHABET]
        parts = [only([name + (end,) for name in names]) for end in ("x", "y", "z")]
        self.assertEqual(len(parts[0]), 1 + 1 + 220 + 2)
        self.assertEqual(len(parts[0] | parts[1]), 1 + 1 + 220 + 2)
        self.assertEqual(len(only([name + name[:8] for name in names])), 20 * 19 + 3)
        self.refused(lambda: only([name * 3 for name in names]))

    def test_very_long_names(self):
        long = ("a",) * 19000
        self.refused(lambda: ending(long))
        self.refused(lambda: only([long]))
        self.refused(lambda: every() + long)
        self.assertEqual([len(ray(long)), len(only([]) + long), len(every() // long)], [3, 1, 2])

    def test_operators(self):
        one = ending(("a", "b") * 249)
        self.assertEqual([len(one), len(~one), len(one | ray(("a", "b"))), len(one & longer(20))], [500] * 4)
        self.refused(lambda: one + ("a",))
        self.refused(lambda: one | only([("b",) * 3]))
        self.refused(lambda: one ^ only([("a", "b") * 249]))
        self.refused(lambda: one - only([("a", "b") * 249]))
        self.refused(lambda: ending(("a",) * 498) & longer(498))
        self.assertEqual(len(every() + ("a",) * 497), 500)
        self.refused(lambda: every() + ("a",) * 498)

    def test_complement(self):
        # The top and ("t",) are in one class here, but not in one of the complement, which so has one class more.
        letters = "abcdefghit"
        whole = over(list(letters))
        flag = {label: over([other for other in letters if other != label]) for label in letters[:9]}
        even = whole ^ reduce(xor, [flag[label] for label in letters[:8]])
        few = reduce(or_, [reduce(and_, [whole - flag[label] for label in word])
                           for word in ("abcdefg", "abcdefi", "abcdghi")])
        odd = (whole ^ even) - few & flag["i"] | even - few - flag["i"]
        self.assertEqual(len(odd), 500)
        self.refused(lambda: ~odd)
        self.refused(lambda: every() - odd)
        self.refused(lambda: every() ^ odd)
        self.assertTrue(odd == odd & every() and odd == odd // ("t",))

    def test_complement_at_the_limit(self):
        self.assertEqual([len(flags(range(8), 20)), len(~flags(range(8), 20))], [256, 257])
        one = ending(("a", "b") * 249)
        self.assertTrue(len(~one) == 500 and ~~one == one)

    def test_more_on_the_way(self):
        left, right, key = flags(range(6), 20), flags(range(6, 12), 20), flags([13], 20)
        self.assertEqual([len(left), len(right)], [64, 64])
        self.refused(lambda: left ^ right)
        one, other = left & key, right - key
        self.assertTrue(one & other == only([]) and one - other == one and other - one == other)
        self.assertEqual([bool(one), bool(other), one.within(~other), (one & other).least()], [True, True, True, None])
        self.refused(lambda: one | other)
        self.refused(lambda: one ^ other)

    def test_queries_refuse_nothing(self):
        one, other = flags(range(8), 20), flags(range(8, 16), 20)
        self.refused(lambda: one & other)
        self.assertIs(one.within(other), False)
        self.assertEqual(one.missing(other), ("a",))

    def test_unions_of_rays(self):
        random = Random(3)
        rays = [ray(tuple(random.choices("ab", k=40))) for _ in range(10)]
        self.assertTrue(reduce(or_, rays) == reduce(or_, rays[::-1]))


class TestRays(unittest.TestCase):

    def test_just_one_of_each_number(self):
        for y in shorts_upto(3, "ab"):
            shorts = ray(y)
            for many in range(1, 7):
                found = [w for w in shorts_upto(6, "ab") if len(w) == many and is_under(w + y, w)]
                self.assertEqual([w for w in shorts_upto(6, "ab") if len(w) == many and w in shorts], found)
                self.assertEqual(found, [ray_end(y, many)])
