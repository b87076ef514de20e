"""Walks through machines: least and longest members, and how many there are."""

from listnames.names import label_beyond


def first_labels(columns):
    """The tuples (label, column), ascending, with the least label of each column."""
    firsts = {0: label_beyond(columns)}
    for label in sorted(list(columns)):
        firsts.setdefault(columns[label], label)
    return sorted([(label, column) for column, label in firsts.items()])


def led_into(machine, states, column, aims):
    """Those of the states from which a column leads to one of the aims."""
    wanted = {state: True for state in aims}
    return tuple([state for state in states if machine.rows[state][column] in wanted])


def ends_among(machine, states):
    """Those of the states that are ends."""
    return tuple([state for state in states if machine.ends[state]])


def layers_to_end(machine):
    """The lists of the states by the least number of labels that lead to them, up to the first list with an end.

    The list is empty if no end can be reached.
    """
    seen = {0: True}
    layers = [[0]]
    while layers[-1]:
        if ends_among(machine, layers[-1]):
            return layers
        layer = []
        for state in layers[-1]:
            for target in machine.rows[state]:
                if target not in seen:
                    seen[target] = True
                    layer.append(target)
        layers.append(layer)
    return []


def least_step(machine, firsts, states, aims):
    """The least label that leads from some of the states to the aims, and these states."""
    for label, column in firsts:
        found = led_into(machine, states, column, aims)
        if found:
            return label, found
    return None


def least_name(machine):
    """The least member, or None."""
    layers = layers_to_end(machine)
    if not layers:
        return None
    firsts = first_labels(machine.columns)
    aims = ends_among(machine, layers[-1])
    name = []
    # The nearest label counts most in the order, and is read last: so the way is gone from the end.
    for states in reversed(list(layers[:-1])):
        label, aims = least_step(machine, firsts, states, aims)
        name.append(label)
    return tuple(name)


def longest_name(machine):
    """The greatest number of labels of a member of a least machine, or None if there is no greatest one."""
    rows = machine.rows
    dead = {at: True for at, row in enumerate(rows) if not machine.ends[at] and row == [at] * len(row)}
    further = [sorted({target for target in row if target not in dead}) for row in rows]
    layer = [0]
    size = 0
    while layer and size < len(rows):
        layer = sorted({target for state in layer for target in further[state]})
        size += 1
    return None if layer else size - 1


def counted(machine, many, labels):
    """How many members have so many labels, all of them in a list."""
    columns = [machine.columns.get(label, 0) for label in labels]
    ways = {0: 1}
    for _ in range(many):
        further = {}
        for state, number in ways.items():
            for column in columns:
                target = machine.rows[state][column]
                further[target] = further.get(target, 0) + number
        ways = further
    return sum([number for state, number in ways.items() if machine.ends[state]])


def layers_along(machine, columns, many):
    """The lists of the states to which just 0, 1, .. up to so many steps of some columns lead."""
    layers = [[0]]
    for _ in range(many):
        layers.append(sorted({machine.rows[state][column] for state in layers[-1] for column in columns}))
    return layers
