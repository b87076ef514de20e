"""Exact sets of short names of any number of labels."""

from listnames.errors import TooMany
from listnames.kinds import is_full
from listnames.machines import MOST_CLASSES, classes_of, extended, joined, least_machine, others, state_behind, without
from listnames.makings import machine_of_ending, machine_of_every, machine_of_longer, machine_of_names
from listnames.makings import machine_of_over, machine_of_ray
from listnames.walks import counted, ends_among, layers_along, least_name, led_into, longest_name

# What is a member of a set that is made of two: of what is in none, in the other, in the one, in both.
BOTH = (False, False, False, True)
EITHER = (False, True, True, True)
FIRST_ALONE = (False, False, True, False)
JUST_ONE = (False, True, True, False)


class Shorts:
    """A set of short names, made by the functions of this file and by the operators."""

    def __init__(self, machine):
        self._machine = least_machine(machine)
        self._classes = classes_of(self._machine)
        if len(self._classes) > MOST_CLASSES:
            raise TooMany(MOST_CLASSES)

    def __eq__(self, other):
        return (isinstance(other, Shorts) and self._machine.columns == other._machine.columns
                and self._machine.rows == other._machine.rows and self._machine.ends == other._machine.ends)

    def __contains__(self, x):
        return is_full(x) and self._machine.ends[state_behind(self._machine, x)]

    def __len__(self):
        return len(self._classes)

    def __bool__(self):
        return any(self._machine.ends)

    def __and__(self, other):
        if not isinstance(other, Shorts):
            return NotImplemented
        return Shorts(joined(self._machine, other._machine, BOTH))

    def __or__(self, other):
        if not isinstance(other, Shorts):
            return NotImplemented
        return Shorts(joined(self._machine, other._machine, EITHER))

    def __sub__(self, other):
        if not isinstance(other, Shorts):
            return NotImplemented
        return Shorts(joined(self._machine, other._machine, FIRST_ALONE))

    def __xor__(self, other):
        if not isinstance(other, Shorts):
            return NotImplemented
        return Shorts(joined(self._machine, other._machine, JUST_ONE))

    def __invert__(self):
        return Shorts(others(self._machine))

    def __floordiv__(self, other):
        return Shorts(without(self._machine, other))

    def __add__(self, other):
        return Shorts(extended(self._machine, other))

    def labels(self):
        """The labels that are not alike to those that occur nowhere, ascending."""
        return sorted(list(self._machine.columns))

    def least(self):
        """The least member, or None."""
        return least_name(self._machine)

    def longest(self):
        """The greatest number of labels of a member: 0 without members, None if there is no greatest one."""
        return longest_name(self._machine)

    def count(self, many, labels):
        """How many members have so many labels, all of them in a list."""
        return counted(self._machine, many, labels)

    def members(self, many, labels):
        """The members of at most so many labels, all of them in a list, ascending."""
        machine = self._machine
        steps = [(label, machine.columns.get(label, 0)) for label in sorted(labels, reverse=True)]
        layers = layers_along(machine, [column for _, column in steps], many)
        known = {}
        for size in range(1, many + 1):
            # The nearest label comes first in the order, and is read last: so names are begun at the end of the way.
            waiting = [((), ends_among(machine, layers[size]))]
            while waiting:
                name, aims = waiting.pop()
                left = size - len(name)
                if left == 0 and aims:
                    yield name
                if left == 0 or not aims:
                    continue
                for label, column in steps:
                    key = (left, column, aims)
                    if key not in known:
                        known[key] = led_into(machine, layers[left - 1], column, aims)
                    waiting.append((name + (label,), known[key]))

    def within(self, other):
        """Whether each member is one of another set."""
        return self.missing(other) is None

    def missing(self, other):
        """The least member that another set has not, or None."""
        return least_name(joined(self._machine, other._machine, FIRST_ALONE))


def every():
    """All short names."""
    return Shorts(machine_of_every())


def only(names):
    """The short names of a list."""
    return Shorts(machine_of_names(names))


def ending(name):
    """The short names that are under a name."""
    return Shorts(machine_of_ending(name) if name else machine_of_every())


def ray(name):
    """The short names that are an end of a name other than the top, repeated."""
    return Shorts(machine_of_ray(name))


def longer(many):
    """The short names with more than so many labels."""
    return Shorts(machine_of_longer(many))


def over(labels):
    """The short names all labels of which are in a list."""
    return Shorts(machine_of_over(labels))
