"""What becomes of short names if a name is put into a zone."""

from listnames.errors import There
from listnames.names import is_beneath, tops
from listnames.zones import with_name


def who_can(host, name):
    """The short names of which a full name is a candidate, ascending."""
    found = [name[:len(name) - len(suffix)] for suffix in host.suffixes() if is_beneath(name, suffix)]
    if host.dots is not None:
        found.append(name)
    return sorted(found, key=len)


def answers_around(host, zone, name):
    """The tuples (short name, answer, answer with the name put), ascending, for all whose answer it can change."""
    if name in zone:
        raise There(name)
    further = with_name(zone, name)
    # A name that is put can make the names that it is beneath empty, and so stop a host at them.
    near = sorted({(len(short), short) for top in tops(name)[:-1] for short in who_can(host, top)})
    return [(short, host(zone, short), host(further, short)) for _, short in near]


def taken_over(host, zone, name):
    """The short names whose answer changes if a name is put, ascending."""
    return [short for short, ahead, behind in answers_around(host, zone, name) if ahead != behind]


def hidden(host, zone, name):
    """The short names whose answer becomes None if a name is put, ascending."""
    return [short for short, ahead, behind in answers_around(host, zone, name)
            if ahead is not None and behind is None]
