"""How names, hosts, zones, changes, demands and towns are written."""

from listnames.errors import NoText, Wrong
from listnames.histories import is_change
from listnames.hosts import Host
from listnames.kinds import is_full, is_name
from listnames.plans import is_demand_on
from listnames.towns import MOST_HOUSES, Town
from listnames.zones import Zone

MOST_DIGITS = 40


def show_name(name):
    """A name as it is written."""
    return ".".join(name) if name else "."


def show_host(host):
    """A host as it is written."""
    words = ["stops" if host.stops else "goes", "-" if host.dots is None else str(host.dots)]
    return " ".join(words + [show_name(suffix) for suffix in host.suffixes()])


def show_zone(zone):
    """A zone as it is written."""
    return "".join([show_name(name) + " " + str(zone[name]) + "\n" for name in zone.names()])


def show_change(change):
    """A change as it is written."""
    return " ".join([change[0], *[show_name(name) for name in change[1:2]], *[str(value) for value in change[2:]]])


def show_answer(answer):
    """An answer as it is written."""
    return "-" if answer is None else show_name(answer[0]) + "=" + str(answer[1])


def show_demand(demand):
    """A demand as it is written."""
    first, house, short, allowed = demand
    return " ".join([str(first), str(house), show_name(short), *[show_answer(answer) for answer in allowed]])


def show_lead(lead):
    """Where a keeper asks, as it is written."""
    return "zone" if lead is None else str(lead)


def show_keeper(keeper):
    """The line of a keeper, without its line feed."""
    found, lost, table = keeper
    leads = [show_name(name) + "=" + show_lead(table[name]) for name in sorted(list(table))]
    return " ".join(["keeper", str(found), str(lost), *leads])


def show_town(town):
    """A town as it is written."""
    keepers = [show_keeper(keeper) for keeper in town.keepers()]
    houses = ["house " + str(first) + " " + show_host(host) for host, first in town.houses()]
    return "".join([line + "\n" for line in keepers + houses])


def words_of(text):
    """The words of a line."""
    if not isinstance(text, str):
        raise NoText()
    return text.split(" ")


def lines_of(text):
    """The lines of a text, each with its line feed taken off."""
    if not isinstance(text, str):
        raise NoText()
    lines = text.split("\n")
    if lines.pop() != "":
        raise NoText()
    return lines


def read_number(word):
    """The integer that a word writes."""
    if not 1 <= len(word) <= MOST_DIGITS or not all(["0" <= sign <= "9" for sign in word]):
        raise NoText()
    if word[0] == "0" and word != "0":
        raise NoText()
    return int(word)


def read_name(text):
    """The name that a text writes."""
    if not isinstance(text, str):
        raise NoText()
    name = () if text == "." else tuple(text.split("."))
    if not is_name(name):
        raise NoText()
    return name


def read_full(word):
    """The full name that a word writes."""
    name = read_name(word)
    if not is_full(name):
        raise NoText()
    return name


def read_pair(word):
    """The name that a word writes, and what stands behind its =; nothing does if there is none."""
    name, _, further = word.partition("=")
    return read_name(name), further


def host_of(words):
    """The host that words write."""
    if len(words) < 2 or words[0] not in ("stops", "goes"):
        raise NoText()
    dots = None if words[1] == "-" else read_number(words[1])
    suffixes = [read_name(word) for word in words[2:]]
    try:
        return Host(suffixes, dots=dots, stops=words[0] == "stops")
    except Wrong:
        raise NoText() from None


def read_host(text):
    """The host that a text writes."""
    return host_of(words_of(text))


def read_zone(text):
    """The zone that a text writes."""
    values = {}
    for line in lines_of(text):
        words = words_of(line)
        if len(words) != 2:
            raise NoText()
        values[read_name(words[0])] = read_number(words[1])
    try:
        zone = Zone(values)
    except Wrong:
        raise NoText() from None
    # Names that are not ascending, or stand twice, are written otherwise.
    if show_zone(zone) != text:
        raise NoText()
    return zone


def change_of(words):
    """The change that words write."""
    change = (words[0], *[read_name(word) for word in words[1:2]], *[read_number(word) for word in words[2:]])
    if not is_change(change):
        raise NoText()
    return change


def read_change(text):
    """The change that a text writes."""
    return change_of(words_of(text))


def read_answer(word):
    """The answer that a word writes, if it is one."""
    if word == "-":
        return None
    name, value = read_pair(word)
    return (name, read_number(value))


def read_demand(text):
    """The demand that a text writes."""
    words = words_of(text)
    if len(words) < 3:
        raise NoText()
    allowed = [read_answer(word) for word in words[3:]]
    demand = (read_number(words[0]), read_number(words[1]), read_name(words[2]), allowed)
    if not is_demand_on(MOST_HOUSES, demand):
        raise NoText()
    return demand


def read_lead(word):
    """Where a word of a keeper leads: a name, and None for the zone or an index."""
    name, lead = read_pair(word)
    return name, None if lead == "zone" else read_number(lead)


def keeper_of(words):
    """The keeper that the words of a line write."""
    if len(words) < 3:
        raise NoText()
    leads = [read_lead(word) for word in words[3:]]
    return (read_number(words[1]), read_number(words[2]), {name: lead for name, lead in leads})


def house_of(words):
    """The house that the words of a line write."""
    # Where the second word is missing, so are those of the host.
    host = host_of(words[2:])
    return (host, read_number(words[1]))


def read_town(text):
    """The town that a text writes."""
    rows = [words_of(line) for line in lines_of(text)]
    keepers = [keeper_of(words) for words in rows if words[0] == "keeper"]
    houses = [house_of(words) for words in rows if words[0] != "keeper"]
    try:
        town = Town(keepers, houses)
    except Wrong:
        raise NoText() from None
    # Keepers behind houses, leads that are not ascending or stand twice, and other lines are written otherwise.
    if show_town(town) != text:
        raise NoText()
    return town
