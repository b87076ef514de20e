"""The machine of a host and of facts: it reads short names as all machines do, and has the entries that stay as ends.

Its states stand for what the candidates can still turn out to be. Each is a tuple (many, gone, rests): how many labels
were read, up to a number beyond which more of them make no difference; the entries whose candidates are under a barred
name; and tuples (kind, entry, beside, rest) of what may stand ahead of the labels that were read, the last label next.
"""

from listnames.machines import Machine, own_columns
from listnames.names import is_beneath, is_under, label_beyond
from listnames.rows import left_entries

# With the rest ahead, the candidate of the entry is under a barred name.
BARRED = 0
# With the rest ahead, it is a sure name, which is under it up to there.
SURE = 1
# As long as the rest goes on, again and again, it is beneath the candidate of the entry beside.
RAY = 2


def ends_of(host):
    """What stands behind a short name in the candidates, by their entries."""
    ends = host.suffixes()
    return ends if host.dots is None else [*ends, ()]


def ahead_of(name, end):
    """What a name has ahead of an end of it."""
    return name[:len(name) - len(end)]


def rests_ahead(host, facts):
    """All that may stand ahead while nothing is read."""
    ends = list(enumerate(ends_of(host)))
    found = []
    for kind, names in ((BARRED, facts.barred()), (SURE, facts.sure())):
        found.extend([(kind, entry, entry, ahead_of(name, end)) for entry, end in ends for name in names
                      if is_beneath(name, end)])
    if host.stops:
        found.extend([(RAY, entry, beside, ahead_of(name, end)) for entry, name in ends for beside, end in ends
                      if is_beneath(name, end)])
    return found


def first_state(host, facts):
    """The state in which nothing is read."""
    gone = [entry for entry, end in enumerate(ends_of(host)) if any([is_under(end, top) for top in facts.barred()])]
    return (0, tuple(gone), tuple(not_gone(gone, rests_ahead(host, facts))))


def not_gone(gone, rests):
    """What may stand ahead for entries that are not gone."""
    return [rest for rest in rests if rest[1] not in gone and rest[2] not in gone]


def state_ahead(state, label, most):
    """The state in which a further label is read."""
    many, gone, rests = state
    barred = list(gone)
    kept = []
    for kind, entry, beside, rest in rests:
        if rest[-1:] != (label,):
            continue
        if kind == RAY:
            kept.append((kind, entry, beside, rest[-1:] + rest[:-1]))
        elif kind == BARRED and len(rest) == 1:
            barred.append(entry)
        else:
            kept.append((kind, entry, beside, rest[:-1]))
    return (min(many + 1, most), tuple(sorted(set(barred))), tuple(not_gone(barred, kept)))


def row_machine(host, facts):
    """The machine that has the tuples of the entries that stay as ends; the end of its first state means nothing."""
    most = 1 if host.dots is None else host.dots + 1
    order = [(first_state(host, facts), ())]
    columns = own_columns(sorted({label for rest in order[0][0][2] for label in rest[3]}))
    steps = [label_beyond(columns), *columns]
    places = {order[0][0]: 0}
    rows = []
    while len(rows) < len(order):
        state, short = order[len(rows)]
        row = []
        for label in steps:
            further = state_ahead(state, label, most)
            if further not in places:
                places[further] = len(order)
                order.append((further, (label, *short)))
            row.append(places[further])
        rows.append(row)
    # What stays is the same at all short names that lead to a state: the first one that did serves for all.
    return Machine(columns, rows, [()] + [left_entries(host, facts, short) for _, short in order[1:]])
