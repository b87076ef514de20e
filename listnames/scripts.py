"""Scripts: askings that bring it about that a house is told an answer."""

from listnames.errors import NoAnswer, NoAsk
from listnames.kinds import is_answer, is_full, is_integer, is_number
from listnames.memories import Memory
from listnames.outlooks import outlook_of


def is_asking(many, thing):
    """Whether a thing is an asking in a town of so many keepers."""
    if not isinstance(thing, tuple) or len(thing) != 3:
        return False
    return is_integer(thing[0]) and is_number(many, thing[1]) and is_full(thing[2])


def refuse_askings(many, askings, moment):
    """Refuse the first thing that is no asking, is earlier than the one ahead, or later than the moment."""
    ahead = None
    for at, thing in enumerate(askings):
        if not is_asking(many, thing) or thing[0] > moment:
            raise NoAsk(at)
        if ahead is not None and thing[0] < ahead:
            raise NoAsk(at)
        ahead = thing[0]


def played(town, house, history, askings, short, moment):
    """The answer that a house is told at a moment if nothing is asked ahead but askings, one after another."""
    # The house is refused ahead of the askings.
    town.host(house)
    refuse_askings(len(town.keepers()), askings, moment)
    memory = Memory(town)
    for at, keeper, name in askings:
        memory.ask(keeper, name, at, history.zone_at(at))
    return memory.complete(house, short, moment, history.zone_at(moment))[0]


def handed_on(town, house, name, state, since, moment):
    """The askings that hand on what a name was at a moment, from keeper to keeper, each as late as possible."""
    found = []
    for keeper in reversed(list(town.road(house, name))):
        # Whoever is not asked by then is asked by the house itself.
        if since == moment:
            break
        found.append((since, keeper, name))
        since = min(moment, since + town.keep(keeper, state))
    return found


def askings_for(town, house, history, short, moment, answer):
    """A list of askings with which a house is told an answer for a short name at a moment."""
    outlook = outlook_of(town, house, history, short)
    if not is_answer(answer) or answer not in outlook.told(moment):
        raise NoAnswer(answer)
    found = []
    for name, state, since in outlook.way_to(answer, moment):
        found.extend(handed_on(town, house, name, state, since, moment))
    return sorted(found)


def is_askings_for(town, house, history, short, moment, answer, thing):
    """Whether a thing is a list of askings with which a house is told an answer."""
    town.host(house)
    if not isinstance(thing, list) or not is_answer(answer):
        return False
    try:
        return played(town, house, history, thing, short, moment) == answer
    except NoAsk:
        return False
