"""Values of all kinds for the tests of wrong inputs, and names for those that list many."""

from itertools import product

from listnames.errors import Wrong
from listnames.facts import Facts
from listnames.hosts import Host
from listnames.shorts import every
from listnames.zones import Zone


def deep(make):
    """Forty things, one inside the other."""
    thing = make(())
    for _ in range(39):
        thing = make([thing])
    return thing


def odd_values():
    """Values that are no label, no name, no number up to a million, no list or dict of such and no part of a zone."""
    return [
        None, True, False, -1, 10 ** 39, -(10 ** 40 - 1), "", "A", "a b", "a-b", "abcdefghi", "a\n", "\t", "~",
        b"", b"a", ["a"], [[]], {"a": 1}, {(): 0}, ("a", 1), ("a", None), ("a", ""), ("a", "B"), ((("a",),),), (["a"],),
        ({},), ("a", ("b",)), {"a"}, frozenset(["a"]), object(), len, Wrong, Wrong(0), ValueError(), deep(list),
        deep(tuple), deep(lambda parts: dict(enumerate(parts))), [0] * 19000, ("a", 0) * 9000, "a" * 19000,
        Zone({("a",): 1}), Host([("a",)]), Facts([], []), every(), every, Zone,
    ]


def names_upto(many, labels):
    """All names of at most so many labels, by the number of labels and then in the order of Python."""
    return [name for size in range(many + 1) for name in product(sorted(labels), repeat=size)]


def shorts_upto(many, labels):
    """All short names of at most so many labels, ascending."""
    return names_upto(many, labels)[1:]
