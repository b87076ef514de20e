"""Desks, [102] with [100], [101] and [91]."""

import unittest
from random import Random

from listnames.book import Book
from listnames.desk import Desk
from listnames.errors import BadChange, Full, Hopeless, ListError, NoCommand, NoEntry, NoHouse, Nothing, Wrong
from listnames.hosts import Host
from listnames.plans import Plan
from listnames.towns import Town
from listnames.windows import told
from listnames.zones import Zone
from test_book import drawn_deed
from test_notation import demand_by_hand, name_by_hand
from things import odd_values
from townsbyhand import A, B, BA, STAY

LAST = {(): None}
XA, XB = ("x", "a"), ("x", "b")
TOWN = Town([(60, 300, LAST)], [(Host([A, B]), 0), (Host([B]), 0)])
MOVE = Plan(Zone({XB: 1}), [("put", XA, 1), ("take", XB)])
SIGHTS = ["show", "demands", "log", "times"]
LONG = "1" * 41


def answer_by_hand(answer):
    return "-" if answer is None else "%s=%d" % (name_by_hand(answer[0]), answer[1])


def change_by_hand(change):
    return " ".join([change[0]] + [name_by_hand(name) for name in change[1:2]] + [str(value) for value in change[2:]])


def deed_by_hand(deed):
    if deed[0] == "demand":
        return "demand " + demand_by_hand(deed[1])
    return " ".join([deed[0], str(deed[1])] + [change_by_hand(change) for change in deed[2:]])


def sights(desk):
    """All that a desk tells without a change."""
    return [desk.execute(line) for line in SIGHTS]


def sights_of(book):
    """What a desk with a book tells, by the words of the document."""
    try:
        times = " ".join(str(moment) for moment in book.times())
    except Hopeless as error:
        times = "hopeless %d %d %s" % (error.many, error.demand, answer_by_hand(error.answer))
    return ["".join(change_by_hand(change) + "\n" for change in book.plan().changes()),
            "".join(demand_by_hand(demand) + "\n" for demand in book.demands()),
            "".join(deed_by_hand(deed) + "\n" for deed in book.log()), times]


class Desks(unittest.TestCase):

    def refuses(self, desk, error, fields, line):
        """A line is refused with just this error, and the desk answers as it did ahead."""
        ahead = sights(desk)
        with self.assertRaises(error, msg=line) as caught:
            desk.execute(line)
        self.assertIs(type(caught.exception), error, line)
        self.assertEqual(vars(caught.exception), fields)
        self.assertEqual(sights(desk), ahead)


class TestMaking(unittest.TestCase):

    def test_wrong(self):
        for thing in odd_values():
            if not isinstance(thing, Town):
                for plan in (MOVE, None):
                    with self.assertRaises(Wrong) as caught:
                        Desk(thing, plan)
                    self.assertEqual(caught.exception.place, 0)
            if not isinstance(thing, Plan):
                with self.assertRaises(Wrong) as caught:
                    Desk(TOWN, thing)
                self.assertIs(type(caught.exception), Wrong)
                self.assertEqual(caught.exception.place, 1)

    def test_beginning(self):
        self.assertEqual(sights(Desk(TOWN, MOVE)), ["put x.a 1\ntake x.b\n", "", "", "0 1"])
        self.assertEqual(sights(Desk(TOWN, Plan(Zone({}), []))), ["", "", "", ""])


class TestLines(Desks):

    def test_each_command(self):
        desk = Desk(TOWN, MOVE)
        for line, answer in [
                ("demand 0 0 x x.b=1 x.a=1", "ok"), ("times", "0 300"), ("told 0 x 1", "x.a=1 x.b=1"), ("told 0 x 2", "x.a=1"),
                ("told 1 x 1", "x.b=1"), ("told 1 x 2", "x.b=1 -"), ("told 0 x.a 2", "-"), ("insert 1 stay", "ok"),
                ("show", "put x.a 1\nstay\ntake x.b\n"), ("change 1 put x.a 2", "ok"), ("show", "put x.a 1\nput x.a 2\ntake x.b\n"),
                ("demands", "0 0 x x.b=1 x.a=1\n"), ("times", "hopeless 2 0 x.a=2"), ("demand 3 1 x -", "ok"), ("release 0", "ok"),
                ("times", "hopeless 3 0 x.b=1"), ("change 0 stay", "ok"), ("drop 1", "ok"), ("show", "stay\ntake x.b\n"),
                ("release 0", "ok"), ("demand 2 0 x.a.b.c -", "ok"), ("demands", "2 0 x.a.b.c -\n"), ("times", "0 1"),
                ("back", "demand 2 0 x.a.b.c -"), ("back", "release 0"), ("back", "drop 1"), ("again", "drop 1"), ("again", "release 0"),
                ("demands", ""), ("log", "demand 0 0 x x.b=1 x.a=1\ninsert 1 stay\nchange 1 put x.a 2\ndemand 3 1 x -\nrelease 0\n"
                                         "change 0 stay\ndrop 1\nrelease 0\n"),
                ("insert 2 put a.b.c 999", "ok"), ("back", "insert 2 put a.b.c 999"), ("told 0 x 2", "x.b=1 -"), ("drop 0", "ok"),
                ("drop 0", "ok"), ("show", ""), ("times", "")]:
            self.assertEqual(desk.execute(line), answer, line)

    def test_drawn(self):
        random = Random(1020)
        refused = {}
        for _ in range(60):
            plan = random.choice([MOVE, Plan(Zone({}), []), Plan(Zone({BA: 1}), [STAY])])
            desk, book = Desk(TOWN, plan), Book(TOWN, plan)
            for _ in range(random.choice([10, 30, 90])):
                kind = random.choice(["deed", "deed", "deed", "deed", "back", "again"])
                deed = drawn_deed(random, book.plan().changes(), book.demands())
                if kind == "deed" and deed[0] != "demand" and deed[1] < 0:
                    self.refuses(desk, NoCommand, {}, deed_by_hand(deed))
                    continue
                line = deed_by_hand(deed) if kind == "deed" else kind
                try:
                    answer = "ok" if kind == "deed" and book.do(deed) is None else deed_by_hand(getattr(book, kind)())
                except ListError as error:
                    refused[type(error)] = refused.get(type(error), 0) + 1
                    self.refuses(desk, type(error), vars(error), line)
                    continue
                self.assertEqual(desk.execute(line), answer)
                self.assertEqual(sights(desk), sights_of(book))
                self.check_told(random, desk, book)
        self.assertEqual(set(refused), {Nothing, Full, NoEntry, BadChange})
        self.assertGreater(min(refused.values()), 10, refused)

    def check_told(self, random, desk, book):
        house, short, many = random.randrange(2), random.choice([("x",), A, B, BA]), random.randint(0, 4)
        line = "told %d %s %d" % (house, name_by_hand(short), many)
        if not 1 <= many <= len(book.plan()):
            self.refuses(desk, NoEntry, {"entry": many}, line)
            return
        try:
            times = book.times()
        except Hopeless as error:
            self.refuses(desk, Hopeless, vars(error), line)
            return
        answers = told(TOWN, house, book.plan().history(times), short, times[many - 1])
        self.assertEqual(desk.execute(line), " ".join(answer_by_hand(answer) for answer in answers))

    def test_what_the_book_refuses(self):
        desk = Desk(TOWN, MOVE)
        self.refuses(desk, Nothing, {}, "back")
        self.refuses(desk, Nothing, {}, "again")
        for line, error, fields in [
                ("insert 3 stay", NoEntry, {"entry": 3}), ("change 2 stay", NoEntry, {"entry": 2}), ("drop 2", NoEntry, {"entry": 2}),
                ("release 0", NoEntry, {"entry": 0}), ("insert " + "9" * 40 + " stay", NoEntry, {"entry": int("9" * 40)}),
                ("insert 2 take x.b", BadChange, {"at": 2}), ("change 0 take x.a", BadChange, {"at": 0}),
                ("insert 0 take x.b", BadChange, {"at": 2}), ("drop " + "1" * 40, NoEntry, {"entry": int("1" * 40)})]:
            self.refuses(desk, error, fields, line)
        for _ in range(8):
            self.assertEqual(desk.execute("insert 0 stay"), "ok")
            self.assertEqual(desk.execute("demand 0 1 a -"), "ok")
        self.refuses(desk, Full, {"limit": 10}, "insert 0 stay")
        self.refuses(desk, Full, {"limit": 8}, "demand 0 1 a -")
        for _ in range(44):
            self.assertEqual(desk.execute("change 0 stay"), "ok")
        self.refuses(desk, Full, {"limit": 60}, "change 0 stay")
        self.refuses(desk, Full, {"limit": 60}, "drop 99")
        self.refuses(desk, NoCommand, {}, "drop")
        self.assertEqual(desk.execute("back"), "change 0 stay")

    def test_times(self):
        for found, lost, expected in [(60, 300, "0 300"), (0, 0, "0 1"), (1000, 1000, "0 1000")]:
            desk = Desk(Town([(found, lost, LAST)], [(Host([A, B]), 0)]), MOVE)
            self.assertEqual(desk.execute("times"), "0 1")
            desk.execute("demand 0 0 x x.a=1 x.b=1")
            self.assertEqual(desk.execute("times"), expected)
        for demand, expected in [("0 0 x", "hopeless 0 1 x.b=1"), ("1 0 x -", "hopeless 1 1 x.a=1"), ("2 1 x x.b=1", "hopeless 2 1 -"),
                                 ("3 1 x", "0 300"), ("2 1 x x.b=1 -", "0 300"), ("2 1 x -", "hopeless 2 1 x.b=1")]:
            desk = Desk(TOWN, MOVE)
            desk.execute("demand 0 0 x x.a=1 x.b=1")
            desk.execute("demand " + demand)
            self.assertEqual([desk.execute("times"), desk.execute("times")], [expected, expected])

    def test_told(self):
        """The house first, then the number, then what is hopeless."""
        desk = Desk(TOWN, MOVE)
        for line, error, fields in [
                ("told 2 x 1", NoHouse, {"house": 2}), ("told 2 x 0", NoHouse, {"house": 2}), ("told 9 x 9", NoHouse, {"house": 9}),
                ("told " + "9" * 40 + " x 1", NoHouse, {"house": int("9" * 40)}), ("told 0 x 0", NoEntry, {"entry": 0}),
                ("told 1 x 3", NoEntry, {"entry": 3}), ("told 0 x " + "9" * 40, NoEntry, {"entry": int("9" * 40)})]:
            self.refuses(desk, error, fields, line)
        desk.execute("demand 0 0 x -")
        self.refuses(desk, NoHouse, {"house": 2}, "told 2 x 3")
        self.refuses(desk, NoEntry, {"entry": 3}, "told 0 x 3")
        self.refuses(desk, Hopeless, {"many": 0, "demand": 0, "answer": (XB, 1)}, "told 0 x 2")
        self.assertEqual(desk.execute("back"), "demand 0 0 x -")
        self.assertEqual([desk.execute("told 0 x 2"), desk.execute("told 0 x.x.x.x.x.x.x.x.x.x.x.x 1")], ["x.a=1 x.b=1 -", "-"])
        empty = Desk(TOWN, Plan(Zone({}), []))
        for many in (0, 1):
            self.refuses(empty, NoEntry, {"entry": many}, "told 0 x %d" % many)


class TestNoCommand(Desks):

    def test_lines(self):
        desk = Desk(TOWN, MOVE)
        desk.execute("demand 0 0 x x.a=1 x.b=1")
        desk.execute("insert 0 stay")
        desk.execute("back")
        lines = ["", " ", "ok", "shows", "show ", " show", "Show", "show\n", "show show", "log ", "times ", "times 1", "demands ", "back ", " back",
                 "back 1", "again ", "again 0", "insert", "insert ", "insert 0", "insert 0 ", "insert stay", "insert 0 stay ", "insert  0 stay",
                 "insert 0  stay", " insert 0 stay", "insert 00 stay", "insert 01 stay", "insert -1 stay", "insert +1 stay", "insert a stay",
                 "insert 0 put x.a", "insert 0 put x.a 1000", "insert 0 put . 1", "insert 0 put x.a 01", "insert 0 take", "insert 0 take x.a 1",
                 "insert 0 wait 1", "insert 0 stay stay", "insert 0 stay\n", "insert\t0 stay", "insert " + LONG + " stay", "Insert 0 stay",
                 "change 0", "change 0 ", "change", "change 0 stay ", "change 00 stay", "change x stay", "drop", "drop ", "drop 0 ", "drop  0",
                 "drop 00", "drop -1", "drop x", "drop 0 0", "drop 0\n", "drop " + LONG, "release", "release ", "release 0 ", "release 01",
                 "release x", "release 0 0", "release " + LONG, "demand", "demand ", "demand 0 0", "demand 0 0 x ", "demand  0 0 x",
                 "demand 0 2 x", "demand 0 3 x -", "demand 0 4 x", "demand 11 0 x", "demand 0 0 .", "demand 0 0 x - -", "demand 0 0 x x.a=1 x.a=1",
                 "demand 00 0 x", "demand 0 0 x x.a", "demand 0 0 x .=1", "demand 0 0 a.a.a.a.a.a.a.a.a", "demand 0 0 x x.a=01", "demand 0 0 x\n",
                 "told", "told ", "told 0", "told 0 x", "told 0 x ", "told 0 x 1 ", "told  0 x 1", "told 0  x 1", "told 0 x  1", " told 0 x 1",
                 "told 0 . 1", "told 00 x 1", "told 0 x 01", "told -1 x 1", "told 0 x -1", "told 0 X 1", "told 0 x 1 1", "told x 0 1",
                 "told 0 x 1\n", "told 0 x.. 1", "told " + LONG + " x 1", "told 0 x " + LONG, "told 0 x " + "0" * 2, "Told 0 x 1", "told 0 1 x",
                 "put x.a 1", "stay", "take x.b", "0", "-", "hopeless", "undo", "demand 0 0 x " + "- " * 12, "tell 0 x 1"]
        for line in lines + odd_values():
            self.refuses(desk, NoCommand, {}, line)
        for line in (b"show", ["show"], ("show",), {"show": 1}, ("drop", 0), None, 0, "a" * 19000, "demand 0 0 x" + " -" * 9000):
            self.refuses(desk, NoCommand, {}, line)
        self.assertEqual(desk.execute("again"), "insert 0 stay")

    def test_lines_spoilt_in_one_sign(self):
        """A line with a sign too many, or with another one in the place of one, is no line."""
        for line in ("insert 1 put x.a 20", "change 0 take x.b", "drop 1", "demand 0 1 x x.b=1 -", "release 0", "told 1 x 2", "times", "again"):
            for at in range(len(line) + 1):
                for sign in [" ", "\t", "\n", "A", "~", "+", "  ", "_"]:
                    for other in (line[:at] + sign + line[at:], line[:at] + sign + line[at + 1:]):
                        if other != line:
                            self.refuses(Desk(TOWN, MOVE), NoCommand, {}, other)

    def test_demands_of_the_town(self):
        for many in range(1, 5):
            town = Town([(1, 1, LAST)], [(Host([A]), 0)] * many)
            for house in range(5):
                desk = Desk(town, MOVE)
                if house < many:
                    self.assertEqual(desk.execute("demand 0 %d x -" % house), "ok")
                else:
                    self.refuses(desk, NoCommand, {}, "demand 0 %d x -" % house)

    def test_desks_go_on_by_themselves(self):
        one, other = Desk(TOWN, MOVE), Desk(TOWN, MOVE)
        one.execute("drop 1")
        self.assertEqual([one.execute("show"), other.execute("show")], ["put x.a 1\n", "put x.a 1\ntake x.b\n"])
        self.assertEqual(MOVE.changes(), [("put", XA, 1), ("take", XB)])
