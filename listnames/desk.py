"""Desks: books that are kept by lines of text."""

from listnames.book import Book
from listnames.deeds import is_deed, read_deed, show_deed
from listnames.errors import Hopeless, NoCommand, NoEntry, NoText
from listnames.notation import read_full, read_number, show_answer, show_change, show_demand
from listnames.windows import told


def lines(texts):
    """Texts with a line feed behind each one."""
    return "".join([text + "\n" for text in texts])


def query_of(line):
    """The house, the short name and the number of a line that asks what is told."""
    words = line.split(" ")
    if len(words) != 4:
        raise NoCommand()
    try:
        return (read_number(words[1]), read_full(words[2]), read_number(words[3]))
    except NoText:
        raise NoCommand() from None


def deed_of(town, line):
    """The deed of a line."""
    try:
        deed = read_deed(line)
    except NoText:
        raise NoCommand() from None
    if not is_deed(town, deed):
        raise NoCommand()
    return deed


class Desk:
    """A book, and the lines that change and show it."""

    def __init__(self, town, plan):
        self._book = Book(town, plan)
        self._town = town

    def execute(self, line):
        """Do what a line says and return the answer."""
        if not isinstance(line, str):
            raise NoCommand()
        if line == "back":
            return show_deed(self._book.back())
        if line == "again":
            return show_deed(self._book.again())
        if line == "show":
            return lines([show_change(change) for change in self._book.plan().changes()])
        if line == "demands":
            return lines([show_demand(demand) for demand in self._book.demands()])
        if line == "log":
            return lines([show_deed(deed) for deed in self._book.log()])
        if line == "times":
            return self._times()
        if line.startswith("told "):
            return self._told(query_of(line))
        self._book.do(deed_of(self._town, line))
        return "ok"

    def _times(self):
        """The least times, or what makes the demands hopeless."""
        try:
            times = self._book.times()
        except Hopeless as error:
            return " ".join(["hopeless", str(error.many), str(error.demand), show_answer(error.answer)])
        return " ".join([str(moment) for moment in times])

    def _told(self, query):
        """What a house can be told for a short name at the moment of the change with a number."""
        house, short, many = query
        # The house is refused ahead of the number.
        self._town.host(house)
        plan = self._book.plan()
        if not 1 <= many <= len(plan):
            raise NoEntry(many)
        times = self._book.times()
        answers = told(self._town, house, plan.history(times), short, times[many - 1])
        return " ".join([show_answer(answer) for answer in answers])
