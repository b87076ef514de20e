"""Whether two hosts give the same answers, and what parts them."""

from listnames.facts import Facts
from listnames.machines import Machine, paired
from listnames.names import is_beneath, root
from listnames.readers import ahead_of, row_machine
from listnames.rows import name_beneath, reduced, with_names
from listnames.shorts import Shorts, ray
from listnames.zones import Zone


def rows_told(host, facts):
    """The machine of a host that has what stands behind the short name in the reduced row as ends."""
    machine = row_machine(host, facts)
    ends = [*host.suffixes(), ()]
    return Machine(machine.columns, machine.rows, [[ends[entry] for entry in left] for left in machine.ends])


def agreed(one, other, facts):
    """The short names at which two hosts give the same answers in all zones of the facts."""
    first, second = rows_told(one, facts), rows_told(other, facts)
    columns, rows, pairs = paired(first, second)
    told = [(first.ends[state], second.ends[beside]) for state, beside in pairs[1:]]
    # If only one of them stops, a first candidate that is empty parts them as soon as there is a second one.
    alike = one.stops == other.stops
    ends = [left == right and (alike or len(left) < 2) for left, right in told]
    return Shorts(Machine(columns, rows, [False, *ends]))


def are_alike(one, other, facts, typed):
    """Whether two hosts give the same answers at all members of a set."""
    return typed.within(agreed(one, other, facts))


def parting_zone(one, other, facts, short):
    """A zone of the facts, with at most two names beside the sure ones, in which two hosts that part differ."""
    names = [*reduced(one, facts, short), *reduced(other, facts, short)]
    names.append(name_beneath(facts, names[0]))
    for at, name in enumerate(names):
        for further in names[at:]:
            zone = with_names(facts, [name, further])
            if one(zone, short) != other(zone, short):
                return zone
    return None


def parting(one, other, facts, typed):
    """The least member of a set at which two hosts part, with a zone; None if they do at none."""
    short = typed.missing(agreed(one, other, facts))
    return None if short is None else (short, parting_zone(one, other, facts, short))


def is_parting(one, other, facts, typed, thing):
    """Whether a thing is a tuple of a member of a set and a zone of the facts that parts two hosts there."""
    if not isinstance(thing, tuple) or len(thing) != 2:
        return False
    short, zone = thing
    if short not in typed or not isinstance(zone, Zone) or not facts.fits(zone):
        return False
    return one(zone, short) != other(zone, short)


def ray_names(host):
    """The suffixes of a host, and what stands ahead of one in a longer one."""
    ends = [*host.suffixes(), ()]
    return [ahead_of(name, end) for name in ends for end in ends if is_beneath(name, end)]


def rays_agreed(one, other):
    """The names on whose rays two hosts that stop agree without facts, but for finitely many, ascending."""
    roots = [root(name) for name in [*ray_names(one), *ray_names(other)]]
    both = agreed(one, other, Facts([], []))
    return [name for _, name in sorted({(len(name), name) for name in roots})
            if (ray(name) - both).longest() is not None]
