"""What becomes of short names if a name is put into a zone."""

from listnames.errors import There
from listnames.names import is_beneath, tops
from listnames.zones import with_name


def who_can(host, name):
    """The short names of which a full name is a candidate, ascending."""
    found = [name[:len(name) - len(suffix)] for suffix in host.suffixes() if is_beneath(name, suffix)]
    if host.dots is not None:
        found.append(name)
    return sorted(found, key=len)


def shorts_near(host, names):
    """The short names, ascending, of which a candidate is one of some full names, or a name that one is beneath."""
    near = sorted(set([top for name in names for top in tops(name)[:-1]]))
    return [short for _, short in sorted({(len(short), short) for top in near for short in who_can(host, top)})]


def answers_around(host, zone, name):
    """The tuples (short name, answer, answer with the name put), ascending, for all whose answer it can change."""
    if name in zone:
        raise There(name)
    further = with_name(zone, name)
    # A name that is put can make the names that it is beneath empty, and so stop a host at them.
    return [(short, host(zone, short), host(further, short)) for short in shorts_near(host, [name])]


def taken_over(host, zone, name):
    """The short names whose answer changes if a name is put, ascending."""
    return [short for short, ahead, behind in answers_around(host, zone, name) if ahead != behind]


def hidden(host, zone, name):
    """The short names whose answer becomes None if a name is put, ascending."""
    return [short for short, ahead, behind in answers_around(host, zone, name)
            if ahead is not None and behind is None]
