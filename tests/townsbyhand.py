"""Keepers, histories and what a house can be told, walked plainly, for the tests to compare with."""

from itertools import product

from byhand import candidates_by_hand, ends_with
from listnames.errors import Late, NoStep
from listnames.histories import History
from listnames.hosts import Host
from listnames.towns import Town
from listnames.zones import Zone
from things import shorts_upto

A, B, AB, BA = ("a",), ("b",), ("a", "b"), ("b", "a")
STAY = ("stay",)
GREATEST = 1000000


class PlainNet:
    """The definition of keepers, walked plainly; it knows, too, at which moment what is told was so."""

    def __init__(self, values, keepers, houses, moment):
        self.values, self.keepers, self.houses, self.moment = dict(values), keepers, houses, moment
        self.memory, self.last, self.done = {}, None, 0

    def so(self, name):
        if name in self.values:
            return ("found", self.values[name])
        return ("empty" if any(ends_with(full, name) for full in self.values) else "lost", None)

    def tell(self, keeper, name):
        """What a keeper tells, and the moment at which it was so; it keeps this."""
        if (keeper, name) in self.memory:
            told, since, was = self.memory[keeper, name]
            number = self.keepers[keeper][0 if told[0] == "found" else 1]
            if since >= self.moment - number:
                return told, was
        table = self.keepers[keeper][2]
        lead = table[max([top for top in table if ends_with(name, top)], key=len)]
        told, was = (self.so(name), self.moment) if lead is None else self.tell(lead, name)
        self.memory[keeper, name] = (told, self.moment, was)
        return told, was

    def refusal(self, step):
        """The error class of a step of a right form, or None."""
        if step[0] == "wait":
            return NoStep if self.moment + step[1] > GREATEST else None
        if step[0] in ("ask", "short"):
            return None
        if self.done == 40:
            return NoStep
        if self.last == self.moment:
            return Late
        many = len(self.values) + (step[0] == "put" and step[1] not in self.values)
        return NoStep if many > 30 or (step[0] == "take" and step[1] not in self.values) else None

    def step(self, step):
        """What a step returns that is not refused, and the tuples (name, told, was) of what the asker was told."""
        if step[0] == "wait":
            self.moment += step[1]
            return None, []
        self.last = self.moment
        if step[0] == "ask":
            told, was = self.tell(step[1], step[2])
            return told, [(step[2], told, was)]
        if step[0] == "short":
            return self.complete(*self.houses[step[1]], step[2])
        self.done += 1
        if step[0] == "put":
            self.values[step[1]] = step[2]
        elif step[0] == "take":
            del self.values[step[1]]
        return None, []

    def complete(self, host, first, short):
        heard = []
        for name in candidates_by_hand(host.suffixes(), host.dots, short):
            told, was = self.tell(first, name)
            heard.append((name, told, was))
            if told[0] == "found":
                return (name, told[1]), heard
            if told[0] == "empty" and host.stops:
                return None, heard
        return None, heard

    def kept(self):
        found = []
        for (keeper, name), (told, since, _) in self.memory.items():
            if self.moment - since <= self.keepers[keeper][told[0] != "found"]:
                found.append((keeper, name, *told, since))
        return sorted(found)


def drawn_town(random):
    """Keepers in a row or with tables that part, and houses of all kinds of hosts."""
    many = random.randint(1, 6)
    keepers = []
    for at in range(many):
        table = {(): at + 1 if at + 1 < many else None}
        if random.random() < 0.6:
            for _ in range(random.randint(1, 4)):
                table[random.choice([(), A, B, AB, ("b", "b")])] = random.choice([None, *range(at + 1, many)])
        keepers.append((random.choice([0, 1, 3, 8]), random.choice([0, 1, 2, 5]), table))
    hosts = [Host([A, B]), Host([B, A], stops=True), Host([AB, B], dots=1, stops=True), Host([], dots=0), Host([])]
    houses = [(random.choice(hosts), random.randrange(many)) for _ in range(random.randint(1, 4))]
    return keepers, houses


def drawn_history(random, many):
    """A zone, changes at moments that can be done, and the values of the zone behind any number of them."""
    names = shorts_upto(3, "ab")
    values = {name: random.randrange(3) for name in random.sample(names, random.randint(0, 4))}
    zone, changes, stood, moment = Zone(values), [], [dict(values)], random.randint(-20, 0)
    for _ in range(many):
        moment += random.choice([1, 1, 2, 5])
        kind = random.choice(["put", "put", "take", "stay"])
        if kind == "put":
            change = ("put", random.choice(names[:6]), random.randrange(3))
            values[change[1]] = change[2]
        elif kind == "take" and values:
            change = ("take", random.choice(sorted(values)))
            del values[change[1]]
        else:
            change = STAY
        changes.append((moment, change))
        stood.append(dict(values))
    return zone, changes, stood


def road_by_hand(keepers, first, name):
    found = [first]
    while True:
        table = keepers[found[-1]][2]
        longest = max((len(top), top) for top in table if ends_with(name, top))[1]
        if table[longest] is None:
            return found
        found.append(table[longest])


def values_by_hand(values, changes, moment):
    """What a zone has at a moment."""
    values = dict(values)
    for at, change in changes:
        if at <= moment and change[0] == "put":
            values[change[1]] = change[2]
        elif at <= moment and change[0] == "take":
            del values[change[1]]
    return values


def state_by_hand(values, name):
    """The state of a name, and its value."""
    if name in values:
        return ("found", values[name])
    return ("empty" if any(ends_with(full, name) for full in values) else "lost", None)


def answer_in(values, host, short):
    """The answer of a zone to a host."""
    for name in candidates_by_hand(host.suffixes(), host.dots, short):
        state, value = state_by_hand(values, name)
        if state == "found":
            return (name, value)
        if state == "empty" and host.stops:
            return None
    return None


def ordered(answers):
    """Answers, ascending, each once, None as the last one."""
    found = sorted({answer for answer in answers if answer is not None})
    return found + [None] if None in answers else found


class Scene:
    """A town and a history, as plain lists and as objects."""

    def __init__(self, values, changes, keepers, houses):
        self.values, self.changes, self.keepers, self.houses = dict(values), list(changes), keepers, houses
        self.town, self.history = Town(keepers, houses), History(Zone(values), changes)

    def so(self, name, moment):
        """The state of a name at a moment, and its value."""
        return state_by_hand(values_by_hand(self.values, self.changes, moment), name)

    def answer(self, house, short, moment):
        """What the zone itself answers at a moment."""
        return answer_in(values_by_hand(self.values, self.changes, moment), self.houses[house][0], short)

    def ages(self, house, name):
        """The sums of the numbers of the keepers on the road, for what is found and for what is not."""
        road = road_by_hand(self.keepers, self.houses[house][1], name)
        return [sum(self.keepers[at][kind] for at in road) for kind in (0, 1)]

    def seen(self, house, name, moment):
        """The tuples (moment, state, value) of what the house can be told of a name, by single moments."""
        ages, found = self.ages(house, name), []
        for at in range(moment - max(ages), moment + 1):
            state, value = self.so(name, at)
            if at >= moment - ages[state != "found"]:
                found.append((at, state, value))
        return found

    def told(self, house, short, moment):
        """All answers, by what can be told of each candidate, free of one another."""
        host = self.houses[house][0]
        names = candidates_by_hand(host.suffixes(), host.dots, short)
        choices = [sorted({row[1:] for row in self.seen(house, name, moment)}, key=repr) for name in names]
        return ordered([self.taken(host, names, states) for states in product(*choices)])

    def taken(self, host, names, states):
        """The answer of a host that is told these states of its candidates."""
        for name, (state, value) in zip(names, states):
            if state == "found":
                return (name, value)
            if state == "empty" and host.stops:
                return None
        return None

    def played(self, house, askings, short, moment):
        """What a house is told if nothing is asked ahead but askings, at moments of any size."""
        net = PlainNet({}, self.keepers, self.houses, None)
        for at, keeper, name in askings:
            net.values, net.moment = values_by_hand(self.values, self.changes, at), at
            net.tell(keeper, name)
        net.values, net.moment = values_by_hand(self.values, self.changes, moment), moment
        return net.complete(*self.houses[house], short)[0]

    def span(self):
        """The first and the last moment at which something may be strange or stale, and some more."""
        moments = [at for at, _ in self.changes] or [0]
        oldest = max([sum(row[0] for row in self.keepers), sum(row[1] for row in self.keepers)])
        return moments[0] - 2, moments[-1] + oldest + 2


    def drawn_moment(self, random):
        """A moment at which something old is often told."""
        moments = [at for at, _ in self.changes] or [0]
        return random.choice(moments) + random.choice([-1, 0, 0, 1, 1, 2, 3, 5, 8, 13])


NEAR = [AB, AB, BA, BA, ("a", "a"), ("b", "b"), A, B, ("b", "a", "a"), ("a", "b", "a")]
CLOSE = [("a", "a"), ("a", "a"), AB, AB, ("b", "a", "a"), ("b", "a", "b")]


def drawn_changes(random, many, names=tuple(NEAR)):
    """Values, and so many changes without moments, mostly of candidates of short names of one label."""
    values = {name: random.randrange(2) for name in random.sample(names, random.randint(1, len(names) // 2))}
    stood, changes = dict(values), []
    for _ in range(many):
        name = random.choice(names)
        if name in stood and random.random() < 0.6:
            changes.append(("take", name))
            del stood[name]
        elif random.random() < 0.9:
            stood[name] = random.randrange(2)
            changes.append(("put", name, stood[name]))
        else:
            changes.append(STAY)
    return values, changes


def drawn_scene(random, many):
    """A town with a history of at most so many changes, the houses mostly with hosts that have suffixes."""
    values, changes = drawn_changes(random, random.randint(0, many))
    moments, moment = [], random.randint(-20, 0)
    for _ in changes:
        moment += random.choice([1, 1, 1, 2, 6])
        moments.append(moment)
    keepers, houses = drawn_town(random)
    if random.random() < 0.9:
        hosts = [Host([A, B]), Host([B, A], stops=True), Host([A, B], stops=True), Host([A], dots=1, stops=random.random() < 0.5)]
        houses = [(random.choice(hosts), first) for _, first in houses]
    return Scene(values, list(zip(moments, changes)), keepers, houses)


def close_scene(random, many):
    """A town in which much that is old is told of the candidates of ("a",), with so many changes."""
    values, changes = drawn_changes(random, many, tuple(CLOSE))
    moments, moment = [], random.randint(-20, 0)
    for _ in changes:
        moment += random.choice([1, 1, 2, 4])
        moments.append(moment)
    keepers = [(random.choice([0, 2, 3, 5]), random.choice([0, 2, 3, 5]), {(): 1, B: random.choice([1, None])}),
               (random.choice([0, 1, 2]), random.choice([0, 1, 2]), {(): None})]
    hosts = [Host([A, B]), Host([B, A]), Host([A, B], stops=True), Host([B, A], stops=True), Host([B], dots=0, stops=True)]
    return Scene(values, list(zip(moments, changes)), keepers, [(random.choice(hosts), 0), (random.choice(hosts), 1)])
