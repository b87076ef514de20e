"""Histories: zones that change at moments."""

from listnames.errors import BadChange, Wrong
from listnames.kinds import is_full, is_moment, is_value
from listnames.names import is_under
from listnames.zones import MOST_NAMES, Zone, told_of

MOST_CHANGES = 40


def is_change(thing):
    """Whether a thing is a change."""
    if not isinstance(thing, tuple) or thing == ():
        return False
    if thing[0] == "put":
        return len(thing) == 3 and is_full(thing[1]) and is_value(thing[2])
    if thing[0] == "take":
        return len(thing) == 2 and is_full(thing[1])
    return thing == ("stay",)


def can_change(zone, change):
    """Whether a change can be done to a zone."""
    if change[0] == "put":
        return change[1] in zone or len(zone) < MOST_NAMES
    return change[0] == "stay" or change[1] in zone


def changed_zone(zone, change):
    """A new zone: one to which a change is done."""
    further = zone.copied()
    if change[0] == "put":
        further[change[1]] = change[2]
    elif change[0] == "take":
        further.take(change[1])
    return further


def can_touch(change, name):
    """Whether a change can make a full name another state, or give it another value."""
    return change[0] != "stay" and is_under(change[1], name)


def are_changes(thing):
    """Whether a thing is a list or a tuple of changes with their moments."""
    if not isinstance(thing, (list, tuple)) or len(thing) > MOST_CHANGES:
        return False
    return all([isinstance(part, tuple) and len(part) == 2 and is_moment(part[0]) and is_change(part[1])
                for part in thing])


class History:
    """A zone, and changes that are done to it one after another."""

    def __init__(self, zone, changes):
        if not isinstance(zone, Zone):
            raise Wrong(0)
        if not are_changes(changes):
            raise Wrong(1)
        self._changes = []
        self._zones = [zone.copied()]
        for moment, change in changes:
            self._follow(moment, change)

    def _follow(self, moment, change):
        """Add a change, or refuse it."""
        at = len(self._changes)
        if at > 0 and moment <= self._changes[-1][0]:
            raise BadChange(at)
        if not can_change(self._zones[-1], change):
            raise BadChange(at)
        self._changes.append((moment, change))
        self._zones.append(changed_zone(self._zones[-1], change))

    def __eq__(self, other):
        return (isinstance(other, History) and self._zones[0] == other._zones[0]
                and self._changes == other._changes)

    def __len__(self):
        return len(self._changes)

    def changes(self):
        """The changes with their moments."""
        return list(self._changes)

    def zone_at(self, moment):
        """The zone at a moment, behind its change."""
        return self._zones[len([at for at, _ in self._changes if at <= moment])].copied()

    def spans(self, name):
        """The tuples (state, value, first moment, last moment) of a full name, in order."""
        found = [(*told_of(self._zones[0], name), None)]
        for (moment, change), zone in zip(self._changes, self._zones[1:]):
            if not can_touch(change, name):
                continue
            told = told_of(zone, name)
            if told != found[-1][:2]:
                found.append((*told, moment))
        lasts = [first - 1 for _, _, first in found[1:]]
        return [(state, value, first, last) for (state, value, first), last in zip(found, [*lasts, None])]

    def then(self, moment, change):
        """The history with a further change."""
        if not is_moment(moment):
            raise Wrong(0)
        if not is_change(change):
            raise Wrong(1)
        if len(self._changes) == MOST_CHANGES:
            raise BadChange(MOST_CHANGES)
        further = self.moved([at for at, _ in self._changes])
        further._follow(moment, change)
        return further

    def moved(self, moments):
        """The history of its first changes, as many as there are moments, at these, whatever their size."""
        other = History(self._zones[0], [])
        other._changes = [(moment, change) for moment, (_, change) in zip(moments, self._changes)]
        other._zones = self._zones[:len(moments) + 1]
        return other
