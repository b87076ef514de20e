"""Windows: what a house can be told at a moment, whatever was asked ahead."""

from listnames.outlooks import outlook_of, parts_seen


def window(town, house, history, name, moment):
    """The tuples (state, value, first, last), in order, of what a house can be told of a full name at a moment."""
    return parts_seen(history.spans(name), town.ages(house, name), moment)


def told(town, house, history, short, moment):
    """All answers that a house can be told for a short name at a moment, ascending, None as the last one."""
    return outlook_of(town, house, history, short).told(moment)


def settled(town, house, history, short):
    """The least moment, not ahead of the last change, from which on only one answer can be told."""
    stretches = outlook_of(town, house, history, short).stretches()
    if len(history) == 0:
        return None
    last = history.changes()[-1][0]
    return max([last] + [end + 1 for _, end in stretches])
