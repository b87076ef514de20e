"""What is strange and what is stale: answers that a zone never gave, or does not give any more."""

from listnames.changes import shorts_near
from listnames.outlooks import outlook_of


def strange(town, house, history, short):
    """The first tuple (moment, answer) of an answer that can be told and that the zone never gave up to then."""
    outlook, host = outlook_of(town, house, history, short), town.host(house)
    beginnings = outlook.beginnings()
    if not beginnings:
        return None
    given = [host(history.zone_at(beginnings[0] - 1), short)]
    # What can be told grows at beginnings alone, and what the zone gave never shrinks.
    for moment in beginnings:
        given.append(host(history.zone_at(moment), short))
        odd = [answer for answer in outlook.told(moment) if answer not in given]
        if odd:
            return (moment, odd[0])
    return None


def strange_short(town, house, history):
    """The least short name for which there is a strange answer, or None."""
    host = town.host(house)
    names = [change[1] for _, change in history.changes() if change[0] != "stay"]
    for short in shorts_near(host, names):
        if strange(town, house, history, short) is not None:
            return short
    return None


def stale(town, house, history, short):
    """The tuples (first, last), in order, of the stretches at which another answer than the zone's can be told."""
    # The zone's own answer can always be told, so a second one is another one.
    return outlook_of(town, house, history, short).stretches()
