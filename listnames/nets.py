"""Nets: runs of a town, step by step."""

from listnames.errors import Late, NoStep, Nothing, Wrong
from listnames.histories import MOST_CHANGES, History, can_change, is_change, changed_zone
from listnames.kinds import GREATEST_MOMENT, is_full, is_moment, is_number
from listnames.memories import Memory
from listnames.towns import Town
from listnames.zones import Zone

LONGEST_WAIT = 1000000


def is_step(town, thing):
    """Whether a thing is a step of a net of a town."""
    if is_change(thing):
        return True
    if not isinstance(thing, tuple) or thing == ():
        return False
    if thing[0] == "wait":
        return len(thing) == 2 and is_number(LONGEST_WAIT + 1, thing[1]) and thing[1] > 0
    if len(thing) != 3 or not is_full(thing[2]):
        return False
    if thing[0] == "ask":
        return is_number(len(town.keepers()), thing[1])
    return thing[0] == "short" and is_number(len(town.houses()), thing[1])


class Net:
    """A zone and the keepers of a town, with what they keep, at a moment."""

    def __init__(self, zone, town, *, moment=0):
        if not isinstance(zone, Zone):
            raise Wrong(0)
        if not isinstance(town, Town):
            raise Wrong(1)
        if not is_moment(moment):
            raise Wrong(2)
        self._first = zone.copied()
        self._town = town
        self._start = moment
        self._moment = moment
        self._zone = self._first
        self._changes = []
        self._memory = Memory(town)
        # Whether something was done at this moment ahead of which a change would have to come.
        self._busy = False
        self._run = []
        # For each step how things stood ahead of it: the moment, the zone, whether it was busy, and what was kept.
        self._ahead = []

    def __eq__(self, other):
        return (isinstance(other, Net) and self._first == other._first and self._town == other._town
                and self._start == other._start and self._run == other._run)

    def __len__(self):
        return len(self._run)

    def moment(self):
        """The moment at which the net stands."""
        return self._moment

    def zone(self):
        """The zone at this moment."""
        return self._zone.copied()

    def history(self):
        """The history of the changes that were done."""
        return History(self._first, self._changes)

    def run(self):
        """The steps that were done."""
        return list(self._run)

    def kept(self):
        """The tuples (keeper, name, state, value, since), ascending, for what keepers would still tell."""
        return self._memory.kept_at(self._moment)

    def asked(self, keeper, name):
        """What a keeper would tell of a full name."""
        return self._memory.heard(keeper, name, self._moment, self._zone)[0]

    def _refuse(self, thing):
        """Refuse what is no step, and a step that cannot be done now."""
        if not is_step(self._town, thing):
            raise NoStep()
        if thing[0] == "wait" and self._moment + thing[1] > GREATEST_MOMENT:
            raise NoStep()
        if is_change(thing):
            if len(self._changes) == MOST_CHANGES:
                raise NoStep()
            if self._busy:
                raise Late()
            if not can_change(self._zone, thing):
                raise NoStep()

    def step(self, thing):
        """Do a step and return what is told."""
        self._refuse(thing)
        stood = (self._moment, self._zone, self._busy)
        told, ahead = None, []
        if thing[0] == "wait":
            self._moment = self._moment + thing[1]
        elif thing[0] == "ask":
            told, ahead = self._memory.ask(thing[1], thing[2], self._moment, self._zone)
        elif thing[0] == "short":
            told, ahead = self._memory.complete(thing[1], thing[2], self._moment, self._zone)
        else:
            self._changes.append((self._moment, thing))
            self._zone = changed_zone(self._zone, thing)
        self._busy = thing[0] != "wait"
        self._run.append(thing)
        self._ahead.append((*stood, ahead))
        return told

    def back(self):
        """Take the last step back and return it."""
        if not self._run:
            raise Nothing()
        thing = self._run.pop()
        self._moment, self._zone, self._busy, ahead = self._ahead.pop()
        if is_change(thing):
            self._changes.pop()
        self._memory.take_back(ahead)
        return thing

    def copied(self):
        """A net that stands there, too, and goes on by itself."""
        other = Net(self._first, self._town, moment=self._start)
        other._moment, other._zone, other._busy = self._moment, self._zone, self._busy
        other._changes = list(self._changes)
        other._memory = self._memory.copied()
        other._run = list(self._run)
        other._ahead = list(self._ahead)
        return other
