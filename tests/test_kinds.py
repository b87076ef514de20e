"""The kinds, [20]."""

import unittest

from listnames import kinds
from listnames.kinds import is_full, is_integer, is_label, is_moment, is_name, is_number, is_value
from things import odd_values


class TestKinds(unittest.TestCase):

    def check(self, kind, yes, no):
        for thing in yes:
            self.assertIs(kind(thing), True, thing)
        for thing in no:
            self.assertIs(kind(thing), False, thing)

    def test_integers(self):
        self.check(is_integer, [0, 1, -1, 10 ** 39, -(10 ** 40 - 1)], [True, False, None, "1", b"1", [1], (1,), {}])

    def test_labels(self):
        self.check(is_label, ["a", "z", "db", "abcdefgh", "zzzzzzzz"],
                   ["", "abcdefghi", "A", "aB", "a1", "a-b", "a.b", " a", "a ", "a\n", "\t", "`", "{", "~", b"a",
                    ["a"], ("a",), None, 1, True])

    def test_every_sign(self):
        for number in [9, 10, *range(32, 127)]:
            sign = chr(number)
            good = sign in "abcdefghijklmnopqrstuvwxyz"
            for thing in (sign, "a" + sign, sign + "a"):
                self.assertIs(is_label(thing), good, thing)

    def test_names(self):
        self.check(is_name, [(), ("a",), ("a", "a"), ("abcdefgh",) * 12, ("a",) * 19000],
                   [[], ["a"], "a", "", None, ("",), ("a", 1), ("a", True), ("a", "B"), (("a",),), (["a"],), {}, 0])

    def test_full_names(self):
        self.check(is_full, [("a",), ("db", "lab", "house"), ("a",) * 19000],
                   [(), [], ["a"], "a", ("a", ""), ("a", None), None, False])

    def test_values(self):
        self.check(is_value, [0, 1, 999], [-1, 1000, 10 ** 39, -10 ** 39, True, False, None, "1", [0]])

    def test_moments(self):
        self.check(is_moment, [0, 1000000, -1000000, 17], [1000001, -1000001, 10 ** 39, -10 ** 39, True, False, None,
                                                            "0", (0,)])

    def test_numbers(self):
        for many in (0, 1, 2, 7, 10 ** 39):
            self.check(lambda thing: is_number(many, thing), [0, many // 2, many - 1] if many else [],
                       [-1, many, many + 1, -10 ** 39, True, False, None, "0", [0]])

    def test_any_value(self):
        for thing in odd_values():
            for kind in (is_label, is_name, is_full, is_value, lambda value: is_number(3, value)):
                self.assertIs(kind(thing), False, thing)
            self.assertIs(is_moment(thing), isinstance(thing, int) and thing == -1)
            self.assertIs(is_integer(thing), isinstance(thing, int) and not isinstance(thing, bool))

    def test_defined_in_their_file(self):
        for kind in (is_integer, is_label, is_name, is_full, is_value, is_moment, is_number):
            self.assertEqual(kind.__module__, kinds.__name__)
