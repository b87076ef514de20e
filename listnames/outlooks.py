"""Outlooks: what a house can be told for a short name while a zone changes."""


def parts_seen(spans, ages, moment):
    """The parts of the spans of a name, in order, that are no older at a moment than the age of their state."""
    found = []
    for state, value, first, last in spans:
        oldest = moment - (ages[0] if state == "found" else ages[1])
        begin = oldest if first is None else max(first, oldest)
        end = moment if last is None else min(last, moment)
        if begin <= end:
            found.append((state, value, begin, end))
    return found


class Outlook:
    """The candidates of a short name, tuples of a name, its ages and its spans, and whether their host stops."""

    def __init__(self, stops, rows):
        self._stops = stops
        self._rows = rows
        # The states at which a host goes on to the next candidate.
        self._passed = ("lost",) if stops else ("empty", "lost")

    def told(self, moment):
        """All answers that can be told at a moment: tuples (name, value), ascending, and None as the last one."""
        found = []
        fails = False
        for name, ages, spans in self._rows:
            seen = parts_seen(spans, ages, moment)
            found.extend([(name, value) for state, value, _, _ in seen if state == "found"])
            states = [state for state, _, _, _ in seen]
            fails = fails or (self._stops and "empty" in states)
            if not any([state in self._passed for state in states]):
                return sorted(set(found)) + ([None] if fails else [])
        return sorted(set(found)) + [None]

    def way_to(self, answer, moment):
        """What is to be told of each candidate up to an answer that can be told: tuples (name, state, moment).

        Each one is as late as it can be, for what is so at the moment itself needs nobody to keep it.
        """
        found = []
        for name, ages, spans in self._rows:
            seen = parts_seen(spans, ages, moment)
            aims = [part for part in seen if self._ends_in(name, part, answer)]
            parts = aims if aims else [part for part in seen if part[0] in self._passed]
            found.append((name, parts[-1][0], parts[-1][3]))
            if aims:
                break
        return found

    def _ends_in(self, name, part, answer):
        """Whether a host ends in an answer as soon as it is told this part of a candidate."""
        if part[0] == "found":
            return (name, part[1]) == answer
        return answer is None and part[0] not in self._passed

    def beginnings(self):
        """The moments, ascending, at which a candidate changes its state or value. At no others more can be told."""
        return sorted({first for _, _, spans in self._rows for _, _, first, _ in spans if first is not None})

    def turns(self):
        """The moments, ascending, at which what can be told may change: beginnings, and behind each age."""
        behind = [last + 1 + (ages[0] if state == "found" else ages[1])
                  for _, ages, spans in self._rows for state, _, _, last in spans if last is not None]
        return sorted(set(self.beginnings() + behind))

    def stretches(self):
        """The tuples (first, last), in order, of the longest stretches of moments with more than one answer."""
        found = []
        turns = self.turns()
        # Ahead of the first turn and from the last one on just one state of each candidate can be told.
        for first, behind in zip(turns, turns[1:]):
            if len(self.told(first)) == 1:
                continue
            begin = first
            if found and found[-1][1] == first - 1:
                begin = found.pop()[0]
            found.append((begin, behind - 1))
        return found


def outlook_of(town, house, history, short):
    """The outlook of a house upon a short name."""
    host = town.host(house)
    return Outlook(host.stops, [(name, town.ages(house, name), history.spans(name)) for name in host.candidates(short)])
