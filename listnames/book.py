"""Books: plans with demands that are changed deed by deed."""

from listnames.deeds import copied_deed, done_to, is_deed
from listnames.errors import Broken, Full, ListError, NoDeed, NoEntry, Nothing, Wrong
from listnames.kinds import is_number
from listnames.plans import Plan, copied_demand
from listnames.towns import Town
from listnames.waits import least_times

MOST_DEEDS = 60


class Book:
    """A plan and demands, the log of the deeds that led to them, and the deeds that can be done again.

    Its lists are never changed, but replaced by new ones, so that others may hold what was there.
    """

    def __init__(self, town, plan):
        if not isinstance(town, Town):
            raise Wrong(0)
        if not isinstance(plan, Plan):
            raise Wrong(1)
        self._town = town
        # The tuples (plan, demands) at the beginning and behind each deed of the log.
        self._stands = [(plan, [])]
        self._log = []
        # What was taken back last is the last one.
        self._undone = []

    def __eq__(self, other):
        return (isinstance(other, Book) and self._town == other._town
                and self._stands[0][0] == other._stands[0][0] and self._log == other._log)

    def __len__(self):
        return len(self._log)

    def __iter__(self):
        raise TypeError("a book is not iterated: the changes of its plan are")

    def __getitem__(self, at):
        changes = self._stands[-1][0].changes()
        if not is_number(len(changes), at):
            raise NoEntry(at)
        return changes[at]

    def __setitem__(self, at, worth):
        self.do(("change", at, worth))

    def _follow(self, deed):
        """Do a deed of the right form, or refuse it."""
        plan, demands = self._stands[-1]
        self._stands = [*self._stands, done_to(plan, demands, deed)]
        self._log = [*self._log, deed]

    def do(self, deed):
        """Do a deed."""
        if not is_deed(self._town, deed):
            raise NoDeed()
        if len(self._log) == MOST_DEEDS:
            raise Full(MOST_DEEDS)
        self._follow(copied_deed(deed))
        self._undone = []

    def back(self):
        """Take the last deed back and return it."""
        if not self._log:
            raise Nothing()
        deed = self._log[-1]
        self._stands = self._stands[:-1]
        self._log = self._log[:-1]
        self._undone = [*self._undone, deed]
        return copied_deed(deed)

    def again(self):
        """Do the deed again that was taken back last, and return it."""
        if not self._undone:
            raise Nothing()
        deed = self._undone[-1]
        self._follow(deed)
        self._undone = self._undone[:-1]
        return copied_deed(deed)

    def plan(self):
        """The plan."""
        return self._stands[-1][0]

    def demands(self):
        """The demands, in order."""
        return [copied_demand(demand) for demand in self._stands[-1][1]]

    def times(self):
        """The least times of the plan with the demands."""
        return least_times(self._town, self.plan(), self.demands())

    def log(self):
        """The deeds that were done and not taken back."""
        return [copied_deed(deed) for deed in self._log]

    def until(self, many):
        """A book with the first so many deeds of the log, and with none to do again."""
        if not is_number(len(self._log) + 1, many):
            raise NoEntry(many)
        other = self.copied()
        other._stands = self._stands[:many + 1]
        other._log = self._log[:many]
        other._undone = []
        return other

    def copied(self):
        """A book with the same beginning, log and deeds to do again, that goes on by itself."""
        other = Book(self._town, self._stands[0][0])
        other._stands, other._log, other._undone = self._stands, self._log, self._undone
        return other

    def tried(self, deeds):
        """A copy behind further deeds, a list."""
        if not isinstance(deeds, list):
            raise Wrong(0)
        other = self.copied()
        for at, deed in enumerate(deeds):
            try:
                other.do(deed)
            except ListError as error:
                raise Broken(at) from error
        return other

    def block(self, act):
        """Call a callable with the book and return what it returns; if it raises, nothing is done."""
        stands, log, undone, ended = self._stands, self._log, self._undone, None
        try:
            result = act(self)
            ended = True
        finally:
            if ended is None:
                self._stands, self._log, self._undone = stands, log, undone
        return result
