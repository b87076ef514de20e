"""Names, [21], and the rays of [6]."""

import unittest

from listnames.names import is_beneath, is_under, least_label, ray_end, root, tops
from things import names_upto, shorts_upto


def in_order(many):
    """The first labels in the order of Python, found by a way of their own: by what comes behind each sign."""
    found = []
    waiting = ["a", "b"]
    while len(found) < many:
        label = waiting.pop(0)
        found.append(label)
        if len(label) < 8:
            waiting = [label + sign for sign in "abcdefghijklmnopqrstuvwxyz"] + waiting
    return found


class TestNames(unittest.TestCase):

    def test_under_and_beneath(self):
        for name in names_upto(4, "ab"):
            for top in names_upto(4, "ab"):
                under = any(x + top == name for x in names_upto(4, "ab"))
                self.assertIs(is_under(name, top), under)
                self.assertIs(is_beneath(name, top), under and name != top)

    def test_under_is_by_labels(self):
        self.assertIs(is_under(("a", "bc"), ("c",)), False)
        self.assertIs(is_under(("db", "lab"), ("db",)), False)
        self.assertIs(is_under(("b",), ("a", "b")), False)
        self.assertIs(is_beneath((), ()), False)
        self.assertIs(is_under((), ()), True)

    def test_tops(self):
        self.assertEqual(tops(("db", "lab", "house")), [("db", "lab", "house"), ("lab", "house"), ("house",), ()])
        self.assertEqual(tops(("a",)), [("a",), ()])
        self.assertEqual(tops(()), [()])
        found = tops(("a", "b"))
        found.append(None)
        self.assertEqual(tops(("a", "b")), [("a", "b"), ("b",), ()])

    def test_ray_end(self):
        self.assertEqual(ray_end(("a", "b"), 3), ("b", "a", "b"))
        self.assertEqual(ray_end(("a", "b", "c"), 2), ("b", "c"))
        for name in (("a",), ("a", "b"), ("x", "y", "x"), tuple("abcdefghijkl"), ("a",) * 12):
            for many in range(1, 41):
                self.assertEqual(ray_end(name, many), (name * 40)[-many:])

    def test_root(self):
        self.assertEqual(root(("a", "b", "a", "b")), ("a", "b"))
        for name in shorts_upto(6, "ab"):
            fitting = [part for part in shorts_upto(6, "ab") if any(part * k == name for k in range(1, 7))]
            self.assertEqual(root(name), fitting[0])
        self.assertEqual(root(("ab", "a", "ba")), ("ab", "a", "ba"))
        self.assertEqual(root(("a", "b", "c") * 4), ("a", "b", "c"))

    def test_least_label(self):
        self.assertEqual(least_label([]), "a")
        self.assertEqual(least_label([()]), "a")
        self.assertEqual(least_label([("b",), ("c", "d")]), "a")
        self.assertEqual(least_label([("b", "a"), ("aaa",)]), "aa")
        self.assertEqual(least_label([("aa", "a"), ("aaa",)]), "aaaa")

    def test_least_label_behind_long_runs(self):
        first = in_order(241)
        self.assertEqual(first[:10], ["a" * size for size in range(1, 9)] + ["aaaaaaab", "aaaaaaac"])
        self.assertEqual(first[32:36], ["aaaaaaaz", "aaaaaab", "aaaaaaba", "aaaaaabb"])
        for many in (7, 8, 9, 33, 34, 35, 36, 60, 61, 62, 63, 240):
            names = [tuple(reversed(first[at:min(at + 12, many)])) for at in range(0, many, 12)]
            self.assertLessEqual(len(names), 20)
            self.assertEqual(least_label(names), first[many])
            self.assertEqual(least_label(list(reversed(names))), first[many])
            self.assertEqual(least_label(names[1:] + [("zz",)]), "a")
            self.assertEqual(least_label(names[:1] + names[2:]), first[min(many, 12)])

    def test_least_label_between(self):
        self.assertEqual(least_label([("a", "aa", "aaa", "aaaa", "aaaaa", "aaaaaa", "aaaaaaa"), ("aaaaaaab",)]), "aaaaaaaa")
        self.assertEqual(least_label([tuple("abcdefgh")]), "aa")

    def test_rays(self):
        for y in shorts_upto(3, "ab"):
            for many in range(1, 6):
                found = [w for w in shorts_upto(5, "ab") if len(w) == many and is_beneath(w + y + ("s",), w + ("s",))]
                self.assertEqual(found, [ray_end(y, many)])
