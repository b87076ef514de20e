"""Values of all kinds for the tests of wrong inputs, and names for those that list many."""

from itertools import product

from listnames.book import Book
from listnames.desk import Desk
from listnames.errors import Wrong
from listnames.facts import Facts
from listnames.histories import History
from listnames.hosts import Host
from listnames.nets import Net
from listnames.plans import Plan
from listnames.shorts import every
from listnames.towns import Town
from listnames.zones import Zone

TOWN = Town([(1, 2, {(): None})], [(Host([("a",)]), 0)])


def deep(make):
    """Forty things, one inside the other."""
    thing = make(())
    for _ in range(39):
        thing = make([thing])
    return thing


def odd_values():
    """Values that are no label, no name, no number up to a million, no list or dict of such and no part of a zone."""
    return [
        None, True, False, -1, 10 ** 39, -(10 ** 40 - 1), "", "A", "a b", "a-b", "abcdefghi", "a\n", "\t", "~",
        b"", b"a", ["a"], [[]], {"a": 1}, {(): 0}, ("a", 1), ("a", None), ("a", ""), ("a", "B"), ((("a",),),), (["a"],),
        ({},), ("a", ("b",)), {"a"}, frozenset(["a"]), object(), len, Wrong, Wrong(0), ValueError(), deep(list),
        deep(tuple), deep(lambda parts: dict(enumerate(parts))), [0] * 19000, ("a", 0) * 9000, "a" * 19000,
        Zone({("a",): 1}), Host([("a",)]), Facts([], []), every(), every, Zone, TOWN, History(Zone({}), []),
        Net(Zone({}), TOWN), Plan(Zone({}), []), Book(TOWN, Plan(Zone({}), [])), Desk(TOWN, Plan(Zone({}), [])),
    ]


def names_upto(many, labels):
    """All names of at most so many labels, by the number of labels and then in the order of Python."""
    return [name for size in range(many + 1) for name in product(sorted(labels), repeat=size)]


def shorts_upto(many, labels):
    """All short names of at most so many labels, ascending."""
    return names_upto(many, labels)[1:]


def spoilt(thing):
    """What differs from a list or a tuple in one place, at any depth: a part is another value, twice or left out."""
    if not isinstance(thing, (list, tuple)):
        return [None, True, -1, "a", ("zz",), [("zz",)], (thing,), [thing]]
    make = type(thing)
    parts = list(thing)
    found = [tuple(parts) if make is list else parts, make(parts + parts[:1]), make(parts[::-1])]
    for at, part in enumerate(parts):
        found.append(make(parts[:at] + parts[at + 1:]))
        found.extend(make(parts[:at] + [other] + parts[at + 1:]) for other in spoilt(part))
    return [other for other in found if not (type(other) is make and other == thing)]
