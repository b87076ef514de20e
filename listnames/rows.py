"""Reduced rows: what is left of the candidates of a short name within facts."""

from listnames.errors import NoAnswer
from listnames.kinds import is_full
from listnames.names import is_beneath, least_label
from listnames.zones import Zone


def ends_row(host, facts, name):
    """Whether a host never looks at what stands behind a candidate that is left."""
    return facts.must_be(name) if host.stops else name in facts.sure()


def reduced(host, facts, short):
    """The candidates of a short name that are left, in order."""
    left = []
    for name in host.candidates(short):
        if not facts.can_be(name):
            continue
        if host.stops and any([is_beneath(name, top) for top in left]):
            continue
        left.append(name)
        if ends_row(host, facts, name):
            break
    return left


def left_entries(host, facts, short):
    """The tuple of the entries of the reduced row of a short name."""
    left = reduced(host, facts, short)
    return tuple([entry for entry, name in zip(host.entries(short), host.candidates(short)) if name in left])


def can_fail(host, facts, row):
    """Whether some zone of the facts answers None to a host with a reduced row."""
    if not row:
        return True
    # A host that stops answers None as soon as its first candidate is empty; another one looks on to the last one.
    return (row[0] if host.stops else row[-1]) not in facts.sure()


def answers(host, facts, short):
    """What the zones of the facts can answer: names, ascending, and None as the last one."""
    row = reduced(host, facts, short)
    found = sorted(row)
    return [*found, None] if can_fail(host, facts, row) else found


def with_names(facts, names):
    """The zone of the sure names and of some others, each with the value 0."""
    return facts.zone() | Zone({name: 0 for name in names})


def name_beneath(facts, name):
    """A name beneath a name that can be, which can be, too."""
    return (least_label([*facts.barred(), name]), *name)


def zone_for(host, facts, short, name):
    """A zone of the facts, of as few names as possible, that answers a name, or None."""
    row = reduced(host, facts, short)
    if name is None and can_fail(host, facts, row):
        zone = facts.zone()
        return zone if host(zone, short) is None else with_names(facts, [name_beneath(facts, row[0])])
    if is_full(name) and name in row:
        return with_names(facts, [name])
    raise NoAnswer(name)
