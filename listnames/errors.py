"""The errors of the package. Each one keeps what it was made with as fields."""


class ListError(ValueError):
    """What all errors of the package are."""


class Wrong(ListError):
    """The argument at a place is not as described."""

    def __init__(self, place):
        self.place = place


class NoName(ListError):
    """A zone has no such name."""

    def __init__(self, name):
        self.name = name


class Full(ListError):
    """There would be more than there may be."""

    def __init__(self, limit):
        self.limit = limit


class NoEntry(ListError):
    """There is no such entry."""

    def __init__(self, entry):
        self.entry = entry


class There(ListError):
    """The zone has the name already."""

    def __init__(self, name):
        self.name = name


class TooMany(ListError):
    """A set of short names would have too many classes."""

    def __init__(self, limit):
        self.limit = limit


class BadFacts(ListError):
    """A sure name is under a barred one."""

    def __init__(self, name):
        self.name = name


class NoAnswer(ListError):
    """No zone gives this answer."""

    def __init__(self, answer):
        self.answer = answer


class NoHouse(ListError):
    """There is no such house."""

    def __init__(self, house):
        self.house = house


class BadChange(ListError):
    """The change with this index cannot be done."""

    def __init__(self, at):
        self.at = at


class NoStep(ListError):
    """This is no step, or none that can be done."""


class Late(ListError):
    """A change comes behind what was done at the same moment."""


class Nothing(ListError):
    """There is nothing to take back, or to do again."""


class NoAsk(ListError):
    """The thing with this index is no asking that can be played."""

    def __init__(self, at):
        self.at = at


class Hopeless(ListError):
    """No times keep the demands."""

    def __init__(self, many, demand, answer):
        self.many = many
        self.demand = demand
        self.answer = answer


class NoDeed(ListError):
    """This is no deed."""


class Broken(ListError):
    """The deed with this index is refused."""

    def __init__(self, at):
        self.at = at


class NoText(ListError):
    """No such thing is written like this."""


class NoCommand(ListError):
    """This is no line that can be executed."""
