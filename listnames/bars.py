"""Which further barred names make two hosts alike."""

from listnames.agree import are_alike, is_parting, parting
from listnames.kinds import is_full


def sets_of(names):
    """All sets of some names, as ascending tuples, ascending."""
    found = [()]
    for name in sorted(names):
        found = found + [(*part, name) for part in found]
    return sorted(found)


def is_part(one, other):
    """Whether one set of names is a part of another one."""
    return all([name in other for name in one])


def alike_by_bars(one, other, facts, typed, names):
    """For each set of names whether two hosts are alike if these are barred, too."""
    # A sure name that is under any of them is refused, whichever set would bar it.
    facts.with_barred(names)
    return {part: are_alike(one, other, facts.with_barred(list(part)), typed) for part in sets_of(names)}


def least_parts(alike):
    """The sets with which hosts are alike, but with no smaller part of them."""
    goods = [part for part in alike if alike[part]]
    return [part for part in goods if not any([less != part and is_part(less, part) for less in goods])]


def greatest_parts(alike):
    """The sets with which hosts part, but with no greater set."""
    bads = [part for part in alike if not alike[part]]
    return [part for part in bads if not any([more != part and is_part(part, more) for more in bads])]


def bars(one, other, facts, typed, names):
    """The least sets of names, ascending, such that two hosts are alike if these are barred, too."""
    return [list(part) for part in least_parts(alike_by_bars(one, other, facts, typed, names))]


def bars_paper(one, other, facts, typed, names):
    """The least sets of names with which two hosts are alike, and the greatest ones with which they part."""
    alike = alike_by_bars(one, other, facts, typed, names)
    bads = [(list(part), parting(one, other, facts.with_barred(list(part)), typed)) for part in greatest_parts(alike)]
    return [list(part) for part in least_parts(alike)], bads


def is_set(alike, thing):
    """Whether a thing is one of the sets, as an ascending list."""
    return isinstance(thing, list) and all([is_full(name) for name in thing]) and tuple(thing) in alike


def is_good(alike, thing):
    """Whether a thing is a set with which hosts are alike."""
    return is_set(alike, thing) and alike[tuple(thing)]


def is_bad(one, other, facts, typed, alike, thing):
    """Whether a thing is a tuple of a set and of what parts two hosts if these names are barred, too."""
    if not isinstance(thing, tuple) or len(thing) != 2 or not is_set(alike, thing[0]):
        return False
    return is_parting(one, other, facts.with_barred(thing[0]), typed, thing[1])


def is_bars_paper(one, other, facts, typed, names, goods, bads):
    """Whether goods and bads are such lists of sets that each set of names is decided by one of them."""
    alike = alike_by_bars(one, other, facts, typed, names)
    if not isinstance(goods, list) or not all([is_good(alike, thing) for thing in goods]):
        return False
    if not isinstance(bads, list) or not all([is_bad(one, other, facts, typed, alike, thing) for thing in bads]):
        return False
    return all([any([is_part(good, part) for good in goods]) or any([is_part(part, bad) for bad, _ in bads])
                for part in alike])
