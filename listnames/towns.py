"""Towns: keepers on the road to a zone, and houses that ask them."""

from listnames.errors import NoHouse, Wrong
from listnames.hosts import Host
from listnames.kinds import is_name, is_number
from listnames.names import tops

MOST_KEEPERS = 6
MOST_HOUSES = 4
GREATEST_KEEP = 1000
MOST_LEADS = 5
LEAD_LABELS = 3


def is_lead(thing, at, many):
    """Whether a thing is where the keeper with an index, one of so many, can lead: the zone, or a later keeper."""
    return thing is None or (is_number(many, thing) and thing > at)


def is_table(thing, at, many):
    """Whether a thing is a table of the keeper with an index, one of so many."""
    if not isinstance(thing, dict) or len(thing) > MOST_LEADS or () not in thing:
        return False
    return all([is_name(name) and len(name) <= LEAD_LABELS and is_lead(lead, at, many)
                for name, lead in thing.items()])


def is_keeper(thing, at, many):
    """Whether a thing is the keeper with an index, one of so many."""
    if not isinstance(thing, tuple) or len(thing) != 3:
        return False
    found, lost, table = thing
    return is_number(GREATEST_KEEP + 1, found) and is_number(GREATEST_KEEP + 1, lost) and is_table(table, at, many)


def are_keepers(thing):
    """Whether a thing is a list or a tuple of the keepers of a town."""
    if not isinstance(thing, (list, tuple)) or not 1 <= len(thing) <= MOST_KEEPERS:
        return False
    return all([is_keeper(part, at, len(thing)) for at, part in enumerate(thing)])


def is_house(thing, many):
    """Whether a thing is a house of a town with so many keepers."""
    return isinstance(thing, tuple) and len(thing) == 2 and isinstance(thing[0], Host) and is_number(many, thing[1])


def are_houses(thing, many):
    """Whether a thing is a list or a tuple of the houses of a town with so many keepers."""
    if not isinstance(thing, (list, tuple)) or not 1 <= len(thing) <= MOST_HOUSES:
        return False
    return all([is_house(part, many) for part in thing])


def copied_keepers(keepers):
    """The keepers with tables of their own."""
    return [(found, lost, {name: table[name] for name in table}) for found, lost, table in keepers]


class Town:
    """Keepers, and houses with their hosts and their first keepers."""

    def __init__(self, keepers, houses):
        if not are_keepers(keepers):
            raise Wrong(0)
        if not are_houses(houses, len(keepers)):
            raise Wrong(1)
        self._keepers = copied_keepers(keepers)
        self._houses = list(houses)

    def __eq__(self, other):
        return isinstance(other, Town) and self._keepers == other._keepers and self._houses == other._houses

    def keepers(self):
        """The keepers, with their numbers and tables."""
        return copied_keepers(self._keepers)

    def houses(self):
        """The houses, with their hosts and the indexes of their first keepers."""
        return list(self._houses)

    def _house(self, house):
        """The house with an index."""
        if not is_number(len(self._houses), house):
            raise NoHouse(house)
        return self._houses[house]

    def host(self, house):
        """The host of a house."""
        return self._house(house)[0]

    def road(self, house, name):
        """The indexes of the keepers that are asked in turn for a full name."""
        return self.road_from(self._house(house)[1], name)

    def road_from(self, keeper, name):
        """The indexes of the keepers that are asked in turn if one is asked for a full name, itself first."""
        found = []
        while keeper is not None:
            found.append(keeper)
            table = self._keepers[keeper][2]
            keeper = [table[top] for top in tops(name) if top in table][0]
        return found

    def ages(self, house, name):
        """How old what the house is told of a full name can be: if it is found, and if it is not."""
        road = self.road(house, name)
        return (sum([self._keepers[at][0] for at in road]), sum([self._keepers[at][1] for at in road]))

    def keep(self, keeper, state):
        """For how many moments a keeper keeps a state."""
        return self._keepers[keeper][0 if state == "found" else 1]

    def with_keep(self, keeper, kind, number):
        """The town in which a keeper has another number for what is found, or for what is lost."""
        found, lost, table = self._keepers[keeper]
        keepers = list(self._keepers)
        keepers[keeper] = (number, lost, table) if kind == "found" else (found, number, table)
        return Town(keepers, self._houses)
