"""The machines of which all others are made."""

from listnames.errors import TooMany
from listnames.machines import MOST_CLASSES, Machine, own_columns
from listnames.names import root


def refuse_long(name):
    """Refuse a name that makes too many classes by its labels alone, before rows for all of them are made."""
    if len(name) > MOST_CLASSES:
        raise TooMany(MOST_CLASSES)


def step_row(columns, label, target, dead):
    """The row of a state from which one label leads on."""
    row = [dead] * (len(columns) + 1)
    row[columns[label]] = target
    return row


def machine_of_every():
    """All short names."""
    return Machine({}, [[1], [1]], [False, True])


def machine_of_ending(name):
    """The short names that are under a name other than the top."""
    refuse_long(name)
    columns = own_columns(name)
    full, dead = len(name), len(name) + 1
    rows = [step_row(columns, label, at + 1, dead) for at, label in enumerate(reversed(list(name)))]
    rows.extend([[state] * (len(columns) + 1) for state in (full, dead)])
    return Machine(columns, rows, [False] * full + [True, False])


def machine_of_ray(name):
    """The short names that are an end of a name other than the top, repeated."""
    part = root(name)
    refuse_long(part)
    columns = own_columns(part)
    size = len(part)
    dead = size + 1
    rows = [step_row(columns, part[-1 - at], at + 1, dead) for at in range(size)]
    rows.append(step_row(columns, part[-1], 1, dead))
    rows.append([dead] * (len(columns) + 1))
    return Machine(columns, rows, [False] + [True] * size + [False])


def machine_of_longer(many):
    """The short names with more than so many labels."""
    rows = [[min(state, many) + 1] for state in range(many + 2)]
    return Machine({}, rows, [False] * (many + 1) + [True])


def machine_of_over(labels):
    """The short names all labels of which are in a list."""
    columns = own_columns(labels)
    row = [2] + [1] * len(columns)
    return Machine(columns, [row, list(row), [2] * len(row)], [False, True, False])


def tree_of(names):
    """The steps, a dict from labels to nodes, and whether it is an end, for each node of the tree of some names."""
    steps = [{}]
    ends = [False]
    for name in names:
        node = 0
        for label in reversed(list(name)):
            if label not in steps[node]:
                steps[node][label] = len(steps)
                steps.append({})
                ends.append(False)
            node = steps[node][label]
        ends[node] = True
    return steps, ends


def folded(steps, ends):
    """The number of each node of a tree: alike ones have the same, and the root has the greatest."""
    numbers = [0] * len(steps)
    places = {}
    for node in reversed(range(len(steps))):
        further = sorted([(label, numbers[child]) for label, child in steps[node].items()])
        numbers[node] = places.setdefault((ends[node], *further), len(places))
    return numbers


def machine_of_names(names):
    """The short names of a list."""
    for name in names:
        refuse_long(name)
    steps, ends = tree_of(names)
    numbers = folded(steps, ends)
    # With the state that leads nowhere there is one more class than there are numbers.
    if numbers[0] + 2 > MOST_CLASSES:
        raise TooMany(MOST_CLASSES)
    columns = own_columns([label for name in names for label in name])
    dead = numbers[0] + 1
    rows = [[dead] * (len(columns) + 1) for _ in range(dead + 1)]
    found = [False] * (dead + 1)
    for node, number in enumerate(numbers):
        state = numbers[0] - number
        found[state] = ends[node]
        for label, child in steps[node].items():
            rows[state][columns[label]] = numbers[0] - numbers[child]
    return Machine(columns, rows, found)
