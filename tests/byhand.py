"""The definitions of the document, walked plainly, for the tests to compare with."""

from itertools import combinations

from listnames.errors import BadFacts
from listnames.facts import Facts
from listnames.hosts import Host
from listnames.zones import Zone


def ends_with(name, end):
    """Whether a name is under another one."""
    return name[len(name) - len(end):] == end if len(end) <= len(name) else False


def candidates_by_hand(suffixes, dots, short):
    found = [short + suffix for suffix in suffixes]
    if dots is None:
        return found
    return [short] + found if len(short) > dots else found + [short]


def entries_by_hand(host, short):
    own, plain = len(host.suffixes()), list(range(len(host.suffixes())))
    if host.dots is None:
        return plain
    return [own] + plain if len(short) > host.dots else plain + [own]


def answer_by_hand(host, zone, short):
    for name in candidates_by_hand(host.suffixes(), host.dots, short):
        if name in zone:
            return (name, zone[name])
        if host.stops and any(ends_with(full, name) for full in zone.names()):
            return None
    return None


def row_by_hand(host, facts, short):
    """The reduced row, one reason to leave out behind the other."""
    names = candidates_by_hand(host.suffixes(), host.dots, short)
    names = [name for name in names if not any(ends_with(name, top) for top in facts.barred())]
    if host.stops:
        left = []
        for name in names:
            if not any(ends_with(name, top) for top in left):
                left.append(name)
        names = left
    for at, name in enumerate(names):
        if name in facts.sure() or (host.stops and any(ends_with(full, name) for full in facts.sure())):
            return names[:at + 1]
    return names


def pattern_by_hand(host, facts, short):
    names = candidates_by_hand(host.suffixes(), host.dots, short)
    left = row_by_hand(host, facts, short)
    return tuple(entry for entry, name in zip(entries_by_hand(host, short), names) if name in left)


def names_near(hosts, short):
    """The candidates of a short name, and a name beneath each: what else is in a zone makes no difference."""
    found = {name for host in hosts for name in candidates_by_hand(host.suffixes(), host.dots, short)}
    return sorted(found) + sorted(("q",) + name for name in found if ("q",) + name not in found)


def zones_near(hosts, facts, short, most=None):
    """The zones of the facts with the sure names and all sets of at most so many names near the candidates."""
    names = [name for name in names_near(hosts, short) if facts.can_be(name) and name not in facts.sure()]
    sizes = range(len(names) + 1 if most is None else most + 1)
    return [Zone({name: 0 for name in [*facts.sure(), *some]}) for size in sizes for some in combinations(names, size)]


def part_by_hand(one, other, facts, short, most=None):
    """Whether two hosts give other answers in one of the zones near the candidates."""
    return any(answer_by_hand(one, zone, short) != answer_by_hand(other, zone, short)
               for zone in zones_near([one, other], facts, short, most))


def drawn_name(random, least, most, labels):
    return tuple(random.choice(labels) for _ in range(random.randint(least, most)))


def drawn_names(random, many, least, most, labels):
    """At most so many different names."""
    return list(dict.fromkeys(drawn_name(random, least, most, labels) for _ in range(many)))


def drawn_host(random, many, labels):
    return Host(drawn_names(random, random.randint(0, many), 1, 3, labels),
                dots=random.choice([None, None, 0, 1, 2, 4]), stops=random.random() < 0.6)


def drawn_facts(random, sure, barred, labels):
    """Facts, often with names that are close to each other."""
    while True:
        try:
            return Facts(drawn_names(random, random.randint(0, sure), 1, 4, labels),
                         drawn_names(random, random.randint(0, barred), 1, 4, labels))
        except BadFacts:
            pass


def like_host(random, host, labels):
    """A host that differs in little: in order, in one suffix, in dots, in its manner, or in nothing."""
    suffixes, dots, stops = host.suffixes(), host.dots, host.stops
    kind = random.randrange(6)
    if kind == 0:
        random.shuffle(suffixes)
    elif kind == 1 and suffixes:
        suffixes.pop(random.randrange(len(suffixes)))
    elif kind == 2:
        suffixes = list(dict.fromkeys(suffixes + [drawn_name(random, 1, 3, labels)]))[:5]
    elif kind == 3:
        dots = random.choice([None, 0, 1, 2, 3])
    elif kind == 4:
        stops = not stops
    return Host(suffixes, dots=dots, stops=stops)
