"""Which entries of a host are needed for the short names that are typed."""

from listnames.hosts import Host
from listnames.kinds import is_integer
from listnames.patterns import shorts_where
from listnames.readers import row_machine
from listnames.zones import Zone


def needed(host, facts, typed):
    """The tuples (entry, short name), ascending, of the entries that stay at some member, with the least one."""
    machine = row_machine(host, facts)
    found = []
    for entry in range(len(host) + 1):
        short = typed.missing(shorts_where(machine, [entry not in left for left in machine.ends[1:]]))
        if short is not None:
            found.append((entry, short))
    return found


def least_host(host, facts, typed):
    """The host with the needed suffixes alone."""
    entries = [entry for entry, _ in needed(host, facts, typed)]
    suffixes = [suffix for entry, suffix in enumerate(host.suffixes()) if entry in entries]
    return Host(suffixes, dots=host.dots if len(host) in entries else None, stops=host.stops)


def shows_need(host, facts, typed, thing):
    """Whether a thing is a tuple (entry, short name, zone) such that the zone answers the candidate of the entry."""
    if not isinstance(thing, tuple) or len(thing) != 3:
        return False
    entry, short, zone = thing
    if not is_integer(entry) or short not in typed or not isinstance(zone, Zone) or not facts.fits(zone):
        return False
    answer = host(zone, short)
    return answer is not None and host.entries(short)[host.candidates(short).index(answer[0])] == entry


def is_needed_paper(host, facts, typed, thing):
    """Whether a thing is a list of tuples that show the need of all needed entries, ascending."""
    if not isinstance(thing, list) or not all([shows_need(host, facts, typed, part) for part in thing]):
        return False
    return [part[0] for part in thing] == [entry for entry, _ in needed(host, facts, typed)]
