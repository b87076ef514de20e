"""Zones: full names with values."""

from listnames.errors import Full, NoName, Wrong
from listnames.kinds import is_full, is_value
from listnames.names import is_beneath, is_under

MOST_NAMES = 30


def are_values(thing):
    """Whether a thing is a dict of which a zone can be made."""
    if not isinstance(thing, dict) or len(thing) > MOST_NAMES:
        return False
    return all([is_full(name) and is_value(value) for name, value in thing.items()])


def united(one, other):
    """A new dict of the names of both, with the values of the other one where both have a name."""
    values = {name: one[name] for name in one}
    for name in other:
        values[name] = other[name]
    if len(values) > MOST_NAMES:
        raise Full(MOST_NAMES)
    return values


class Zone:
    """Full names with values, at most thirty of them."""

    def __init__(self, values):
        if not are_values(values):
            raise Wrong(0)
        self._values = {name: values[name] for name in values}

    def __eq__(self, other):
        return isinstance(other, Zone) and self._values == other._values

    def __len__(self):
        return len(self._values)

    def __contains__(self, x):
        return is_full(x) and x in self._values

    def __iter__(self):
        raise TypeError("a zone is not iterated: its names are")

    def __getitem__(self, at):
        if at not in self:
            raise NoName(at)
        return self._values[at]

    def __setitem__(self, at, worth):
        if not is_full(at):
            raise Wrong(0)
        if not is_value(worth):
            raise Wrong(1)
        self._values = united(self._values, {at: worth})

    def __or__(self, other):
        if not isinstance(other, Zone):
            return NotImplemented
        return Zone(united(self._values, other._values))

    def __ior__(self, other):
        if not isinstance(other, Zone):
            return NotImplemented
        self._values = united(self._values, other._values)
        return self

    def __and__(self, other):
        if not isinstance(other, Zone):
            return NotImplemented
        return Zone({name: value for name, value in self._values.items() if name in other._values})

    def __sub__(self, other):
        if not isinstance(other, Zone):
            return NotImplemented
        return Zone({name: value for name, value in self._values.items() if name not in other._values})

    def take(self, name):
        """Take a name out and return the value that it had."""
        if name not in self:
            raise NoName(name)
        return self._values.pop(name)

    def names(self):
        """The names, ascending."""
        return sorted(list(self._values))

    def under(self, top):
        """The names under a name, ascending."""
        return [name for name in self.names() if is_under(name, top)]

    def state(self, name):
        """What a name is in the zone: found, empty or lost."""
        if name in self._values:
            return "found"
        if any([is_beneath(full, name) for full in self._values]):
            return "empty"
        return "lost"

    def copied(self):
        """An equal zone of its own."""
        other = Zone({})
        other._values = {name: self._values[name] for name in self._values}
        return other


def with_name(zone, name):
    """A new zone with a further name. It may have one name too many: it only serves to ask what would be."""
    further = zone.copied()
    further._values[name] = 0
    return further


def told_of(zone, name):
    """The state of a full name in a zone, and its value, None if it is not found."""
    return (zone.state(name), zone[name] if name in zone else None)
