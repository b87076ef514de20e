"""Hosts: how short names are completed along a list of suffixes."""

from listnames.errors import NoEntry, Wrong
from listnames.kinds import are_names, is_full, is_number
from listnames.names import tops

MOST_SUFFIXES = 5
SUFFIX_LABELS = 3
GREATEST_DOTS = 4


class Host:
    """A list of suffixes, a number of dots, and whether the host stops at empty names."""

    def __init__(self, suffixes, *, dots=None, stops=False):
        if not are_names(suffixes, MOST_SUFFIXES, SUFFIX_LABELS):
            raise Wrong(0)
        if dots is not None and not is_number(GREATEST_DOTS + 1, dots):
            raise Wrong(1)
        if not isinstance(stops, bool):
            raise Wrong(2)
        self._suffixes = list(suffixes)
        self._dots = dots
        self._stops = stops

    def __eq__(self, other):
        return (isinstance(other, Host) and self._suffixes == other._suffixes
                and self._dots == other._dots and self._stops == other._stops)

    def __len__(self):
        return len(self._suffixes)

    def __contains__(self, x):
        return is_full(x) and x in self._suffixes

    def __iter__(self):
        raise TypeError("a host is not iterated: its suffixes are")

    def __getitem__(self, at):
        if not is_number(len(self._suffixes), at):
            raise NoEntry(at)
        return self._suffixes[at]

    def __call__(self, zone, short):
        looked = self.looked(zone, short)
        if not looked or looked[-1][1] != "found":
            return None
        name = looked[-1][0]
        return (name, zone[name])

    @property
    def dots(self):
        """The number of dots, or None."""
        return self._dots

    @property
    def stops(self):
        """Whether the host stops at a name that is empty."""
        return self._stops

    def suffixes(self):
        """The suffixes, in order."""
        return list(self._suffixes)

    def entries(self, short):
        """The entries of the candidates of a short name, in order."""
        own = len(self._suffixes)
        found = list(range(own))
        if self._dots is None:
            return found
        return [own, *found] if len(short) > self._dots else [*found, own]

    def candidates(self, short):
        """The names that are asked for in turn for a short name."""
        ends = [*self._suffixes, ()]
        return [short + ends[entry] for entry in self.entries(short)]

    def looked(self, zone, short):
        """The candidates that are looked at in a zone, with their states."""
        found = []
        for name in self.candidates(short):
            state = zone.state(name)
            found.append((name, state))
            if state == "found" or (state == "empty" and self._stops):
                break
        return found

    def with_suffixes(self, suffixes):
        """The host with other suffixes, and the same dots and manner."""
        return Host(suffixes, dots=self._dots, stops=self._stops)


def devolved(name, least):
    """The tops of a name that have at least so many labels, the name first."""
    return [top for top in tops(name) if len(top) >= least]
