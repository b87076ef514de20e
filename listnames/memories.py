"""Memories: what the keepers of a town were told, and tell for a while."""

from listnames.zones import told_of


class Memory:
    """What each keeper was told last of each full name, whether it would still tell it or not."""

    def __init__(self, town):
        self._town = town
        # For tuples (keeper, name) the tuple (state, value, moment at which the keeper was told it).
        self._last = {}

    def _is_fresh(self, keeper, told, moment):
        """Whether a keeper would still tell at a moment what it was told."""
        return told[2] >= moment - self._town.keep(keeper, told[0])

    def kept_at(self, moment):
        """The tuples (keeper, name, state, value, since), ascending, for what keepers would still tell."""
        last = self._last
        return [(*key, *last[key]) for key in sorted(list(last)) if self._is_fresh(key[0], last[key], moment)]

    def heard(self, keeper, name, moment, zone):
        """What a keeper tells of a full name while a zone stands, and the keepers that are told it on the way."""
        asking = []
        for at in self._town.road_from(keeper, name):
            told = self._last.get((at, name))
            if told is not None and self._is_fresh(at, told, moment):
                return told[:2], asking
            asking.append(at)
        return told_of(zone, name), asking

    def ask(self, keeper, name, moment, zone):
        """Ask a keeper for a full name; return what it tells, and what was kept ahead of it."""
        told, asking = self.heard(keeper, name, moment, zone)
        ahead = [((at, name), self._last.get((at, name))) for at in asking]
        for at in asking:
            self._last[(at, name)] = (*told, moment)
        return told, ahead

    def complete(self, house, short, moment, zone):
        """Ask for the candidates of a short name; return the answer, and what was kept ahead of it."""
        host, first = self._town.houses()[house]
        ahead = []
        for name in host.candidates(short):
            (state, value), further = self.ask(first, name, moment, zone)
            ahead.extend(further)
            if state == "found":
                return (name, value), ahead
            if state == "empty" and host.stops:
                break
        return None, ahead

    def take_back(self, ahead):
        """Put back what was kept ahead of an ask."""
        for key, told in ahead:
            if told is None:
                del self._last[key]
            else:
                self._last[key] = told

    def copied(self):
        """A memory that goes on by itself."""
        other = Memory(self._town)
        other._last = {key: self._last[key] for key in self._last}
        return other
