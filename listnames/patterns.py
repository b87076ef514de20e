"""Patterns: at which short names the entries of a host stay in its reduced rows."""

from listnames.errors import NoEntry
from listnames.kinds import is_number
from listnames.machines import Machine
from listnames.readers import row_machine
from listnames.shorts import Shorts


def shorts_where(machine, ends):
    """The short names that lead to the states of a machine, but for the first one, of which the ends are true."""
    return Shorts(Machine(machine.columns, machine.rows, [False, *ends]))


def stays(host, facts, entry):
    """The short names at which an entry stays."""
    if not is_number(len(host) + 1, entry):
        raise NoEntry(entry)
    machine = row_machine(host, facts)
    return shorts_where(machine, [entry in left for left in machine.ends[1:]])


def patterns(host, facts):
    """The tuples (entries, short names), ascending, for all tuples of entries that stay together."""
    machine = row_machine(host, facts)
    return [(entries, shorts_where(machine, [left == entries for left in machine.ends[1:]]))
            for entries in sorted(set(machine.ends[1:]))]
