"""Plans: changes whose moments are not chosen yet, and what is demanded of them."""

from listnames.errors import NoEntry, Wrong
from listnames.histories import History
from listnames.kinds import is_answer, is_full, is_number
from listnames.zones import Zone

MOST_PLANNED = 10
MOST_ALLOWED = 11
SHORT_LABELS = 8


class Plan:
    """A zone and changes that are to be done to it one after another."""

    def __init__(self, zone, changes):
        if not isinstance(zone, Zone):
            raise Wrong(0)
        if not isinstance(changes, (list, tuple)) or len(changes) > MOST_PLANNED:
            raise Wrong(1)
        # The changes are numbered by moments that stand for none yet. What is no change is refused there.
        self._history = History(zone, list(enumerate(changes)))

    def __eq__(self, other):
        return isinstance(other, Plan) and self._history == other._history

    def __len__(self):
        return len(self._history)

    def changes(self):
        """The changes, in order."""
        return [change for _, change in self._history.changes()]

    def zone_behind(self, many):
        """The zone behind the first so many changes."""
        if not is_number(len(self._history) + 1, many):
            raise NoEntry(many)
        return self._history.zone_at(many - 1)

    def history(self, times):
        """The history with the changes at these times; with fewer times, that of as many changes."""
        return self._history.moved(times)


def is_demand_on(houses, thing):
    """Whether a thing is a demand for a town of so many houses."""
    if not isinstance(thing, tuple) or len(thing) != 4:
        return False
    first, house, short, allowed = thing
    if not is_number(MOST_PLANNED + 1, first) or not is_number(houses, house):
        return False
    if not is_full(short) or len(short) > SHORT_LABELS:
        return False
    if not isinstance(allowed, list) or len(allowed) > MOST_ALLOWED:
        return False
    return all([is_answer(part) for part in allowed]) and len(set(allowed)) == len(allowed)


def is_demand(town, thing):
    """Whether a thing is a demand for a town."""
    return is_demand_on(len(town.houses()), thing)


def copied_demand(demand):
    """A demand with a list of its own."""
    first, house, short, allowed = demand
    return (first, house, short, list(allowed))


def honest(plan, town, house, short):
    """The demand that a house is told nothing but what the zone answers behind some number of the changes."""
    host = town.host(house)
    allowed = []
    for many in range(len(plan) + 1):
        answer = host(plan.zone_behind(many), short)
        if answer not in allowed:
            allowed.append(answer)
    return (0, house, short, allowed)
