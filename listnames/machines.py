"""Machines that decide short names, reading each from its last label to its first one.

State 0 is the one in which nothing is read yet. No step leads back to it, and it is no end: the top is no short name.
Each row has a step for each column; column 0 is that of all labels that have no column of their own.
"""

from listnames.errors import TooMany

MOST_CLASSES = 500


class Machine:
    """Columns, a dict from labels; rows, lists of states; ends, for each state whether what was read is a member.

    The machines of hosts (readers.py) have as ends what else is to be told of what was read.
    """

    def __init__(self, columns, rows, ends):
        self.columns = columns
        self.rows = rows
        self.ends = ends


def state_behind(machine, name):
    """The state in which a name is read."""
    state = 0
    for label in reversed(list(name)):
        state = machine.rows[state][machine.columns.get(label, 0)]
    return state


def own_columns(labels):
    """Columns in which each label of a tuple or a list has its own one."""
    columns = {}
    for label in labels:
        columns.setdefault(label, len(columns) + 1)
    return columns


def paired_columns(one, other):
    """The columns that two machines have together, and the list of the pairs of columns that these stand for."""
    columns = {}
    places = {(0, 0): 0}
    for label in sorted(set(list(one) + list(other))):
        pair = (one.get(label, 0), other.get(label, 0))
        columns[label] = places.setdefault(pair, len(places))
    return columns, list(places)


def paired(one, other):
    """Columns, rows and pairs of states of the machine that has two machines at once."""
    columns, pairs = paired_columns(one.columns, other.columns)
    places = {(0, 0): 0}
    order = [(0, 0)]
    rows = []
    while len(rows) < len(order):
        left, right = order[len(rows)]
        row = []
        for column, beside in pairs:
            pair = (one.rows[left][column], other.rows[right][beside])
            if pair not in places:
                places[pair] = len(order)
                order.append(pair)
            row.append(places[pair])
        rows.append(row)
    return columns, rows, order


def joined(one, other, table):
    """The machine that has both at once; the table tells what is an end: of none, the other, the one, both."""
    columns, rows, pairs = paired(one, other)
    return Machine(columns, rows, [table[2 * one.ends[state] + other.ends[second]] for state, second in pairs])


def others(machine):
    """The machine of all other short names."""
    return Machine(machine.columns, machine.rows, [False] + [not end for end in machine.ends[1:]])


def without(machine, name):
    """The machine of the short names w with w + name in a machine."""
    row = machine.rows[state_behind(machine, name)]
    return Machine(machine.columns, [row] + machine.rows[1:], machine.ends)


def extended(machine, name):
    """The machine of the names w + name, w in a machine."""
    if not any(machine.ends):
        return machine
    if len(name) > MOST_CLASSES:
        raise TooMany(MOST_CLASSES)
    own = own_columns(name)
    columns, pairs = paired_columns(machine.columns, own)
    first = len(name)
    dead = first + len(machine.rows)
    rows = []
    for at, label in enumerate(reversed(list(name))):
        rows.append([at + 1 if column == own[label] else dead for _, column in pairs])
    rows.extend([[first + row[column] for column, _ in pairs] for row in machine.rows])
    rows.append([dead] * len(pairs))
    return Machine(columns, rows, [False] * first + machine.ends + [False])


def numbered(machine):
    """The states that can be reached, in the order in which they come up."""
    places = {0: 0}
    order = [0]
    rows = []
    while len(rows) < len(order):
        steps = machine.rows[order[len(rows)]]
        row = []
        for state in steps:
            if state not in places:
                places[state] = len(order)
                order.append(state)
            row.append(places[state])
        rows.append(row)
    return Machine(machine.columns, rows, [machine.ends[state] for state in order])


def sources_of(rows):
    """For each state the list of the states from which a step leads to it."""
    found = [[] for _ in rows]
    for state, row in enumerate(rows):
        for target in sorted(set(row)):
            found[target].append(state)
    return found


def parts_of(rows, blocks, states):
    """These states by their signs: their own blocks first, then those to which their steps lead."""
    found = {}
    for state in states:
        sign = tuple([blocks[state]] + [blocks[target] for target in rows[state]])
        found.setdefault(sign, []).append(state)
    return found


def moving_parts(parts, sizes):
    """The parts that leave their blocks: all but the greatest, where no other state is left behind in the block."""
    several = {}
    for sign, states in parts.items():
        several.setdefault(sign[0], []).append(states)
    found = []
    for block, lists in several.items():
        if sum([len(states) for states in lists]) == sizes[block]:
            found.extend(sorted(lists, key=len)[:-1])
        else:
            found.extend(lists)
    return found


def blocks_of(machine, most):
    """The block of each state, alike ones in one block, the first state alone in block 0.

    With more than so many blocks the work is left early: there are too many then, whatever else is split.
    """
    blocks = [1 if end == machine.ends[1] else 2 for end in machine.ends]
    blocks[0] = 0
    sizes = [len([other for other in blocks if other == block]) for block in sorted(set(blocks))]
    sources = sources_of(machine.rows)
    touched = list(range(len(blocks)))
    while touched and len(sizes) <= most:
        moving = moving_parts(parts_of(machine.rows, blocks, touched), sizes)
        for part in moving:
            sizes[blocks[part[0]]] = sizes[blocks[part[0]]] - len(part)
            for state in part:
                blocks[state] = len(sizes)
            sizes.append(len(part))
        # All others still lead to the same blocks as those beside them in their own block.
        touched = sorted({source for part in moving for state in part for source in sources[state]})
    return blocks


def merged(machine, blocks):
    """The machine with a state for each block."""
    firsts = {}
    for state, block in enumerate(blocks):
        firsts.setdefault(block, state)
    states = [firsts[block] for block in range(len(firsts))]
    rows = [[blocks[target] for target in machine.rows[state]] for state in states]
    return Machine(machine.columns, rows, [machine.ends[state] for state in states])


def narrowed(machine):
    """The machine with one column for labels that are alike, and no label that is alike to those without a column."""
    steps = list(zip(*machine.rows))
    places = {steps[0]: 0}
    kept = [0]
    columns = {}
    for label in sorted(list(machine.columns)):
        told = steps[machine.columns[label]]
        if told not in places:
            places[told] = len(kept)
            kept.append(machine.columns[label])
        if places[told] != 0:
            columns[label] = places[told]
    return Machine(columns, [[row[column] for column in kept] for row in machine.rows], machine.ends)


def least_machine(machine):
    """The machine with as few states as possible: the same one for all machines that have the same members."""
    found = numbered(machine)
    # The first state may be alike to another one, and is not counted twice then.
    blocks = blocks_of(found, MOST_CLASSES + 1)
    if max(blocks) > MOST_CLASSES:
        raise TooMany(MOST_CLASSES)
    return numbered(narrowed(merged(found, blocks)))


def classes_of(machine):
    """The states of a least machine that stand for a class each: the first one only if no other one is like it."""
    states = list(range(len(machine.rows)))
    alike = [state for state in states[1:] if not machine.ends[state] and machine.rows[state] == machine.rows[0]]
    return states[1:] if alike else states
