"""Deeds: what is done to a plan and its demands, and how it is written."""

from listnames.errors import Full, NoEntry, NoText
from listnames.histories import is_change
from listnames.kinds import is_integer, is_number
from listnames.notation import read_change, read_demand, read_number, show_change, show_demand
from listnames.plans import MOST_PLANNED, Plan, copied_demand, is_demand

MOST_DEMANDS = 8
# Deeds with an index and a change, and those with an index alone.
WITH_CHANGE = ("insert", "change")
WITH_INDEX = ("drop", "release")


def is_deed(town, thing):
    """Whether a thing is a deed for a town, whether there is such an index or not."""
    if not isinstance(thing, tuple) or thing == ():
        return False
    if thing[0] in WITH_CHANGE:
        return len(thing) == 3 and is_integer(thing[1]) and is_change(thing[2])
    if thing[0] in WITH_INDEX:
        return len(thing) == 2 and is_integer(thing[1])
    return thing[0] == "demand" and len(thing) == 2 and is_demand(town, thing[1])


def copied_deed(deed):
    """A deed with a list of its own."""
    return ("demand", copied_demand(deed[1])) if deed[0] == "demand" else deed


def show_deed(deed):
    """A deed as it is written."""
    if deed[0] == "demand":
        return "demand " + show_demand(deed[1])
    return " ".join([deed[0], str(deed[1]), *[show_change(change) for change in deed[2:]]])


def read_deed(text):
    """The deed that a text writes, for whatever town."""
    word, _, rest = text.partition(" ")
    if word in WITH_CHANGE:
        at, _, change = rest.partition(" ")
        return (word, read_number(at), read_change(change))
    if word in WITH_INDEX:
        return (word, read_number(rest))
    if word != "demand":
        raise NoText()
    return (word, read_demand(rest))


def refuse_entry(many, at):
    """Refuse what is no index of so many things."""
    if not is_number(many, at):
        raise NoEntry(at)


def changes_behind(changes, deed):
    """The changes to which a deed leads, a new list."""
    word, at = deed[0], deed[1]
    refuse_entry(len(changes) + (1 if word == "insert" else 0), at)
    if word == "insert" and len(changes) == MOST_PLANNED:
        raise Full(MOST_PLANNED)
    behind = at if word == "insert" else at + 1
    return [*changes[:at], *deed[2:], *changes[behind:]]


def done_to(plan, demands, deed):
    """The tuple of the plan and the demands to which a deed leads."""
    if deed[0] == "demand":
        if len(demands) == MOST_DEMANDS:
            raise Full(MOST_DEMANDS)
        return (plan, [*demands, deed[1]])
    if deed[0] == "release":
        refuse_entry(len(demands), deed[1])
        return (plan, [*demands[:deed[1]], *demands[deed[1] + 1:]])
    return (Plan(plan.zone_behind(0), changes_behind(plan.changes(), deed)), demands)
