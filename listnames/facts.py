"""Facts: what is known of a zone, names that it has and names under which it has nothing."""

from listnames.errors import BadFacts, Wrong
from listnames.kinds import are_names
from listnames.names import is_beneath, is_under
from listnames.zones import Zone

MOST_SURE = 4
MOST_BARRED = 8
NAME_LABELS = 4


class Facts:
    """Sure names and barred names."""

    def __init__(self, sure, barred):
        if not are_names(sure, MOST_SURE, NAME_LABELS):
            raise Wrong(0)
        if not are_names(barred, MOST_BARRED, NAME_LABELS):
            raise Wrong(1)
        self._sure = sorted(list(sure))
        self._bar(list(barred))

    def _bar(self, names):
        """Begin with these barred names, or refuse them."""
        for name in self._sure:
            if any([is_under(name, top) for top in names]):
                raise BadFacts(name)
        self._barred = sorted(names)
        # A barred name beneath another one bars nothing more, so equal facts need not share it.
        self._bars = [name for name in self._barred if not any([is_beneath(name, top) for top in names])]

    def __eq__(self, other):
        return isinstance(other, Facts) and self._sure == other._sure and self._bars == other._bars

    def sure(self):
        """The sure names, ascending."""
        return list(self._sure)

    def barred(self):
        """The barred names, ascending."""
        return list(self._barred)

    def can_be(self, name):
        """Whether some zone of the facts has a full name."""
        return not any([is_under(name, top) for top in self._bars])

    def must_be(self, name):
        """Whether a name is there in all zones of the facts."""
        return any([is_under(full, name) for full in self._sure])

    def fits(self, zone):
        """Whether a zone is one of the facts."""
        return all([name in zone for name in self._sure]) and all([self.can_be(name) for name in zone.names()])

    def zone(self):
        """The zone of the sure names, each with the value 0."""
        return Zone({name: 0 for name in self._sure})

    def with_barred(self, names):
        """The facts with further barred names."""
        further = Facts(self._sure, [])
        further._bar(self._barred + [name for name in names if name not in self._barred])
        return further
