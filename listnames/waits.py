"""Waits: the least times of a plan at which no house is told anything else than it may be told."""

from listnames.errors import Hopeless
from listnames.kinds import is_number
from listnames.outlooks import outlook_of
from listnames.scripts import askings_for, is_askings_for

# So far apart nothing can be told but what stands just ahead of a change and just behind it: no age is as great.
FAR = 10000


def outlooks_on(town, history, demands):
    """For each demand the outlook of its house upon its short name."""
    return [outlook_of(town, house, history, short) for _, house, short, _ in demands]


def harm_at(outlooks, demands, many, moment):
    """The tuple (demand, answer) of what breaks the first demand that is not kept at the moment of a change, or None.

    The number of the change is 0 for a moment ahead of the first one.
    """
    for index, (first, _, _, allowed) in enumerate(demands):
        if first > many:
            continue
        broken = [answer for answer in outlooks[index].told(moment) if answer not in allowed]
        if broken:
            return (index, broken[0])
    return None


def harm(town, plan, demands, times):
    """The first tuple (number of a change, demand, answer) by which a demand is not kept, or None."""
    outlooks = outlooks_on(town, plan.history(times), demands)
    ahead = times[0] - 1 if times else 0
    # Between two changes nothing can be told that could not be told at the first one.
    for many, moment in enumerate([ahead, *times]):
        found = harm_at(outlooks, demands, many, moment)
        if found is not None:
            return (many, *found)
    return None


def keeps(town, plan, demands, times):
    """Whether all demands are kept with these times."""
    return harm(town, plan, demands, times) is None


def harm_behind(town, plan, demands, times, moment):
    """What breaks a demand, or None, at the moment of a change that comes behind those that have their times."""
    taken = [*times, moment]
    return harm_at(outlooks_on(town, plan.history(taken), demands), demands, len(taken), moment)


def soonest(town, plan, demands, times):
    """The least moment at which the change behind those that have their times breaks no demand.

    The later it comes, the less can be told.
    """
    low, high = times[-1] + 1, times[-1] + FAR
    if harm_behind(town, plan, demands, times, low) is None:
        return low
    while low < high:
        middle = (low + high) // 2
        if harm_behind(town, plan, demands, times, middle) is None:
            high = middle
        else:
            low = middle + 1
    return low


def least_times(town, plan, demands):
    """The times that begin with 0, keep the demands, and are at no change later than any others that do."""
    hopeless = harm(town, plan, demands, [FAR * at for at in range(len(plan))])
    if hopeless is not None:
        many, index, answer = hopeless
        raise Hopeless(many, index, answer)
    times = []
    # A change that comes sooner lets all behind it come sooner, so each one takes the least moment that it can.
    for many in range(len(plan)):
        times.append(soonest(town, plan, demands, times) if many > 0 else 0)
    return times


def waits_of(times):
    """The numbers of the changes that come more than one moment behind the one ahead."""
    return [many for many in range(2, len(times) + 1) if times[many - 1] - times[many - 2] > 1]


def sooner(times, many):
    """The times up to a change, which comes one moment sooner and is the last one."""
    return [*times[:many - 1], times[many - 1] - 1]


def waits_paper(town, plan, demands):
    """For each wait of more than one moment the tuple (number, demand, answer, askings) of what is told without it."""
    times = least_times(town, plan, demands)
    found = []
    for many in waits_of(times):
        taken = sooner(times, many)
        moment = taken[-1]
        index, answer = harm_behind(town, plan, demands, taken[:-1], moment)
        _, house, short, _ = demands[index]
        askings = askings_for(town, house, plan.history(taken), short, moment, answer)
        found.append((many, index, answer, askings))
    return found


def shows_wait(town, plan, demands, times, many, thing):
    """Whether a thing is a tuple that shows why a change waits as long as it does."""
    if not isinstance(thing, tuple) or len(thing) != 4 or thing[0] != many:
        return False
    _, index, answer, askings = thing
    if not is_number(len(demands), index):
        return False
    first, house, short, allowed = demands[index]
    if first > many or answer in allowed:
        return False
    taken = sooner(times, many)
    return is_askings_for(town, house, plan.history(taken), short, taken[-1], answer, askings)


def is_waits_paper(town, plan, demands, times, thing):
    """Whether times begin with 0 and keep the demands, and a thing shows why each change waits as long as it does."""
    if times[:1] not in ([], [0]) or not keeps(town, plan, demands, times):
        return False
    waiting = waits_of(times)
    if not isinstance(thing, list) or len(thing) != len(waiting):
        return False
    return all([shows_wait(town, plan, demands, times, many, part) for many, part in zip(waiting, thing)])
