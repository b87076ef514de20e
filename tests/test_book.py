"""Books, [100] with [12]."""

import unittest
from random import Random

from listnames.book import Book
from listnames.errors import BadChange, Broken, Full, Hopeless, ListError, NoDeed, NoEntry, Nothing, Wrong
from listnames.histories import History
from listnames.hosts import Host
from listnames.plans import Plan, honest
from listnames.towns import Town
from listnames.waits import least_times
from listnames.zones import Zone
from things import odd_values
from townsbyhand import A, AB, B, BA, STAY

FAR = 10 ** 39
LAST = {(): None}
HOST = Host([A])
TOWN = Town([(9, 9, LAST)], [(HOST, 0), (Host([B]), 0)])
PUT, TAKE = ("put", BA, 1), ("take", BA)
FREE = (0, 0, B, [None, (BA, 1)])
EMPTY = Plan(Zone({}), [])


def refusal_by_hand(values, changes, demands, many, deed):
    """The error class and the fields with which a deed of the right form is refused, or None; and what it leads to."""
    changes, demands = list(changes), list(demands)
    if many >= 60:
        return (Full, {"limit": 60}), None
    word, at = deed[0], deed[1]
    bounds = {"insert": len(changes), "change": len(changes) - 1, "drop": len(changes) - 1, "release": len(demands) - 1}
    if word in bounds and not 0 <= at <= bounds[word]:
        return (NoEntry, {"entry": at}), None
    if word == "demand":
        demands.append(deed[1])
    elif word == "release":
        del demands[at]
    elif word == "insert":
        changes.insert(at, deed[2])
    elif word == "change":
        changes[at] = deed[2]
    else:
        del changes[at]
    if len(changes) > 10:
        return (Full, {"limit": 10}), None
    if len(demands) > 8:
        return (Full, {"limit": 8}), None
    values = dict(values)
    for index, change in enumerate(changes):
        if change[0] == "put":
            values[change[1]] = change[2]
        elif change[0] == "take" and change[1] not in values:
            return (BadChange, {"at": index}), None
        elif change[0] == "take":
            del values[change[1]]
        if len(values) > 30:
            return (BadChange, {"at": index}), None
    return None, (changes, demands)


def drawn_demand(random):
    answers = random.sample([None, (BA, 1), (BA, 2), (AB, 1), (("b", "b"), 1)], random.randint(0, 4))
    return (random.randint(0, 10), random.randrange(2), random.choice([A, B, AB]), answers)


def drawn_deed(random, changes, demands):
    """A deed of the right form; its index is often one beyond, and its change often cannot be done."""
    change = random.choice([STAY, STAY, ("put", random.choice([BA, AB]), random.randrange(3)), PUT, TAKE, ("take", AB)])
    word = random.choice(["insert", "insert", "insert", "change", "drop", "demand", "demand", "release"])
    if word == "demand":
        return (word, drawn_demand(random))
    many = len(demands) if word == "release" else len(changes)
    at = random.choice([-1, many, many + 1, FAR]) if random.random() < 0.15 else random.randint(0, max(0, many - 1))
    return (word, at, change) if word in ("insert", "change") else (word, at)


def stood(book):
    """All that a book tells, but for what can be done again."""
    return [book.plan().changes(), book.demands(), book.log(), len(book)]


def undone(book):
    """What can be done again, in order."""
    other, found = book.copied(), []
    while True:
        try:
            found.append(other.again())
        except Nothing:
            return found


def run(book, *deeds):
    for deed in deeds:
        book.do(deed)
    return book


class Books(unittest.TestCase):

    def refuses(self, book, error, fields, call, *given):
        """A call is refused with just this error, and nothing changes."""
        ahead = [stood(book), undone(book)]
        with self.assertRaises(error) as caught:
            call(*given)
        self.assertIs(type(caught.exception), error)
        self.assertEqual(vars(caught.exception), fields)
        self.assertEqual([stood(book), undone(book)], ahead)

    def nothing(self, book):
        for call in (book.back, book.again):
            self.refuses(book, Nothing, {}, call)


class TestMaking(Books):

    def test_wrong(self):
        for thing in odd_values():
            if not isinstance(thing, Town):
                with self.assertRaises(Wrong) as caught:
                    Book(thing, EMPTY)
                self.assertEqual(caught.exception.place, 0)
                with self.assertRaises(Wrong) as caught:
                    Book(thing, None)
                self.assertEqual(caught.exception.place, 0)
            if not isinstance(thing, Plan):
                with self.assertRaises(Wrong) as caught:
                    Book(TOWN, thing)
                self.assertIs(type(caught.exception), Wrong)
                self.assertEqual(caught.exception.place, 1)
        with self.assertRaises(Wrong):
            Book(TOWN, History(Zone({}), []))

    def test_beginning(self):
        for changes in ([], [PUT], [STAY] * 10):
            book = Book(TOWN, Plan(Zone({AB: 3}), changes))
            self.assertEqual([stood(book), undone(book)], [[changes, [], [], 0], []])
            self.assertTrue(book.plan() == Plan(Zone({AB: 3}), changes) and book.plan().zone_behind(0) == Zone({AB: 3}))
            self.assertEqual(book.times(), list(range(len(changes))))
            self.nothing(book)


class TestDeeds(Books):

    def test_each_kind(self):
        book = Book(TOWN, EMPTY)
        for deed, changes, demands in [
                (("insert", 0, TAKE), None, None), (("insert", 0, PUT), [PUT], []), (("insert", 1, TAKE), [PUT, TAKE], []),
                (("insert", 0, STAY), [STAY, PUT, TAKE], []), (("insert", 1, ("put", AB, 2)), [STAY, ("put", AB, 2), PUT, TAKE], []),
                (("demand", FREE), [STAY, ("put", AB, 2), PUT, TAKE], [FREE]),
                (("demand", (1, 1, A, [])), [STAY, ("put", AB, 2), PUT, TAKE], [FREE, (1, 1, A, [])]),
                (("demand", FREE), [STAY, ("put", AB, 2), PUT, TAKE], [FREE, (1, 1, A, []), FREE]),
                (("change", 0, ("take", A)), None, None), (("change", 1, STAY), [STAY, STAY, PUT, TAKE], [FREE, (1, 1, A, []), FREE]),
                (("drop", 2), None, None), (("drop", 3), [STAY, STAY, PUT], [FREE, (1, 1, A, []), FREE]),
                (("release", 0), [STAY, STAY, PUT], [(1, 1, A, []), FREE]), (("drop", 0), [STAY, PUT], [(1, 1, A, []), FREE]),
                (("release", 1), [STAY, PUT], [(1, 1, A, [])]), (("change", 1, ("put", BA, 9)), [STAY, ("put", BA, 9)], [(1, 1, A, [])])]:
            if changes is None:
                with self.assertRaises(BadChange):
                    book.do(deed)
                continue
            log = book.log()
            self.assertIs(book.do(deed), None)
            self.assertEqual(stood(book), [changes, demands, log + [deed], len(log) + 1])
            self.assertTrue(book.plan() == Plan(Zone({}), changes))

    def test_drawn(self):
        random = Random(100)
        refused = {}
        for _ in range(120):
            values = random.choice([{}, {BA: 1}, {("n" + one + two,): 1 for one in "abc" for two in "abcdefghij"}])
            book = Book(TOWN, Plan(Zone(values), []))
            changes, demands, log = [], [], []
            for _ in range(random.choice([15, 30, 90])):
                deed = drawn_deed(random, changes, demands)
                refusal, led = refusal_by_hand(values, changes, demands, len(log), deed)
                if refusal is not None:
                    self.refuses(book, *refusal, book.do, deed)
                    refused[refusal[0], refusal[1].get("limit")] = refused.get((refusal[0], refusal[1].get("limit")), 0) + 1
                    continue
                book.do(deed)
                changes, demands = led
                log.append(deed)
                self.assertEqual([stood(book), undone(book)], [[changes, demands, log, len(log)], []])
                self.assertTrue(book.plan() == Plan(Zone(values), changes))
                self.assertEqual([book[at] for at in range(len(changes))], changes)
                with self.assertRaises(NoEntry):
                    book[len(changes)]
        self.assertEqual(len(refused), 5)
        self.assertGreater(min(refused.values()), 10, refused)

    def test_no_deed(self):
        book = run(Book(TOWN, Plan(Zone({}), [PUT, STAY])), ("demand", FREE), ("drop", 1))
        book.back()
        bad = [(), ("insert",), ("insert", 0), ("insert", 0, STAY, 0), ("insert", STAY, 0), ("insert", "0", STAY), ["insert", 0, STAY],
               ("change", 0), ("change", True, STAY), ("change", 0, "stay"), ("change", 0, ["stay"]), ("change", 0, ("take", ())),
               ("drop",), ("drop", 0, 0), ("drop", "0"), ("drop", False), ("drop", None), ["drop", 0], ("drop", 0, STAY),
               ("release",), ("release", False), ("release", 0, 0), ("demand",), ("demand", 0), ("demand", *FREE),
               ("demand", list(FREE)), ("demand", (0, 2, B, [])), ("demand", (11, 0, B, [])), ("demand", (0, 0, (), [])),
               ("demand", (0, 0, B, [None, None])), ("demand", (0, 0, B, ())), ("demand", FREE, 0), ("stay",), STAY, ("put", BA, 1),
               ("ask", FREE), (None, FREE), (FREE, FREE), (FREE,), FREE, (0, "drop"), ("Drop", 0), ("undo", 0), ("insert", 0, ("put", BA, 1000)), ("insert", 0, ("put", BA, True)), "drop 0"]
        for thing in bad + odd_values():
            self.refuses(book, NoDeed, {}, book.do, thing)
        for thing in odd_values():
            for deed in [(thing, 0), (thing, 0, STAY), (thing,), ("insert", 0, thing), ("change", 0, thing), ("demand", thing),
                         ("insert", thing), ("demand", (0, 0, B, thing)), ("demand", (thing, 0, B, []))]:
                self.refuses(book, NoDeed, {}, book.do, deed)
            if thing not in (-1, FAR, -(10 ** 40 - 1)) or isinstance(thing, bool):
                for deed in [("insert", thing, STAY), ("change", thing, STAY), ("drop", thing), ("release", thing)]:
                    self.refuses(book, NoDeed, {}, book.do, deed)
        self.assertEqual(book.again(), ("drop", 1))

    def test_what_comes_first(self):
        """No deed, then sixty deeds, then no index, then too many, then what cannot be done."""
        full = run(Book(TOWN, Plan(Zone({}), [])), *[("insert", 0, STAY)] * 10, *[("demand", FREE)] * 8)
        self.refuses(full, NoEntry, {"entry": 11}, full.do, ("insert", 11, TAKE))
        self.refuses(full, NoEntry, {"entry": -1}, full.do, ("insert", -1, STAY))
        self.refuses(full, Full, {"limit": 10}, full.do, ("insert", 10, TAKE))
        self.refuses(full, Full, {"limit": 10}, full.do, ("insert", 0, STAY))
        self.refuses(full, Full, {"limit": 8}, full.do, ("demand", FREE))
        self.refuses(full, NoEntry, {"entry": 10}, full.do, ("change", 10, TAKE))
        self.refuses(full, NoEntry, {"entry": 8}, full.do, ("release", 8))
        self.refuses(full, BadChange, {"at": 3}, full.do, ("change", 3, TAKE))
        full.do(("change", 3, PUT))
        last = run(full, *[("change", 0, STAY)] * 41)
        self.assertEqual(len(last), 60)
        for deed in [("insert", 0, STAY), ("insert", 99, STAY), ("change", 0, STAY), ("change", 0, TAKE), ("drop", 0), ("drop", -1),
                     ("demand", FREE), ("release", 0), ("release", 99)]:
            self.refuses(last, Full, {"limit": 60}, last.do, deed)
        for thing in [("drop",), ("demand", (0, 2, B, [])), STAY, None]:
            self.refuses(last, NoDeed, {}, last.do, thing)
        self.assertEqual(last.back(), ("change", 0, STAY))
        last.do(("drop", 9))
        self.refuses(last, Full, {"limit": 60}, last.do, ("drop", 0))

    def test_indexes(self):
        for many in (0, 1, 3):
            book = Book(TOWN, Plan(Zone({}), [STAY] * many))
            for _ in range(many):
                book.do(("demand", FREE))
            for at in (-FAR, -2, -1, many, many + 1, FAR):
                self.refuses(book, NoEntry, {"entry": at}, book.do, ("change", at, STAY))
                self.refuses(book, NoEntry, {"entry": at}, book.do, ("drop", at))
                self.refuses(book, NoEntry, {"entry": at}, book.do, ("release", at))
                if at != many:
                    self.refuses(book, NoEntry, {"entry": at}, book.do, ("insert", at, STAY))
            book.copied().do(("insert", many, STAY))
            for at in range(many):
                for deed in [("insert", at, STAY), ("change", at, STAY), ("drop", at), ("release", at)]:
                    run(book.copied(), deed)

    def test_bad_changes(self):
        """The index is that of the plan that would come."""
        book = Book(TOWN, Plan(Zone({}), [PUT, STAY, TAKE]))
        for deed, at in [(("drop", 0), 1), (("change", 0, STAY), 2), (("insert", 1, TAKE), 3), (("insert", 0, TAKE), 0),
                         (("insert", 3, TAKE), 3), (("change", 1, TAKE), 2), (("change", 2, ("take", A)), 2)]:
            self.refuses(book, BadChange, {"at": at}, book.do, deed)
        values = {("n" + one + two,): 1 for one in "abc" for two in "abcdefghij"}
        book = Book(TOWN, Plan(Zone(values), [("take", ("naa",)), PUT]))
        for deed, at in [(("drop", 0), 0), (("insert", 0, ("put", AB, 1)), 0), (("insert", 2, ("put", AB, 1)), 2),
                         (("change", 0, ("put", ("naa",), 2)), 1)]:
            self.refuses(book, BadChange, {"at": at}, book.do, deed)


class TestItems(Books):

    def test_items(self):
        book = Book(TOWN, Plan(Zone({}), [PUT, STAY, TAKE]))
        self.assertEqual([book[at] for at in range(3)], [PUT, STAY, TAKE])
        for thing in odd_values() + [3, 4, FAR, "0", (0,), None, [0]]:
            self.refuses(book, NoEntry, {"entry": thing}, lambda: book[thing])
        self.assertEqual(len(book), 0)

    def test_no_iteration(self):
        with self.assertRaises(TypeError):
            list(Book(TOWN, Plan(Zone({}), [PUT])))

    def set(self, book, at, change):
        book[at] = change

    def test_setting(self):
        book = run(Book(TOWN, Plan(Zone({}), [PUT, STAY, TAKE])), ("drop", 1))
        book.back()
        for thing in odd_values() + ["0", (0,)]:
            if isinstance(thing, bool) or thing not in (-1, FAR, -(10 ** 40 - 1)):
                self.refuses(book, NoDeed, {}, self.set, book, thing, STAY)
            self.refuses(book, NoDeed, {}, self.set, book, 0, thing)
            self.refuses(book, NoDeed, {}, self.set, book, 99, thing)
        for at in (-1, 3, 4, FAR):
            self.refuses(book, NoEntry, {"entry": at}, self.set, book, at, STAY)
        self.refuses(book, BadChange, {"at": 2}, self.set, book, 0, STAY)
        book[1] = ("put", BA, 7)
        self.assertEqual([stood(book), undone(book)],
                         [[[PUT, ("put", BA, 7), TAKE], [], [("change", 1, ("put", BA, 7))], 1], []])
        self.assertEqual(book.back(), ("change", 1, ("put", BA, 7)))
        self.assertEqual(book[1], STAY)
        other = run(book, *[("change", 1, STAY)] * 60)
        self.refuses(other, Full, {"limit": 60}, self.set, other, 0, TAKE)

    def test_times(self):
        town = Town([(60, 300, LAST)], [(Host([A, B]), 0)])
        plan = Plan(Zone({("x", "b"): 1}), [("put", ("x", "a"), 1), ("take", ("x", "b"))])
        book = Book(town, plan)
        self.assertEqual(book.times(), [0, 1])
        book.do(("demand", honest(plan, town, 0, ("x",))))
        self.assertEqual(book.times(), [0, 300])
        book.times().clear()
        self.assertEqual(book.times(), least_times(town, book.plan(), book.demands()))
        book.do(("demand", (2, 0, ("x",), [None])))
        self.refuses(book, Hopeless, {"many": 2, "demand": 1, "answer": (("x", "a"), 1)}, book.times)
        book.do(("insert", 2, STAY))
        book.do(("release", 0))
        book.do(("change", 0, STAY))
        self.refuses(book, Hopeless, {"many": 2, "demand": 0, "answer": (("x", "b"), 1)}, book.times)
        book.do(("release", 0))
        self.assertEqual(book.times(), [0, 1, 2])


class TestBack(Books):

    def drawn_book(self, random, many):
        book = Book(TOWN, Plan(Zone(random.choice([{}, {BA: 1}])), random.choice([[], [PUT, STAY, TAKE]])))
        for _ in range(many):
            try:
                book.do(drawn_deed(random, book.plan().changes(), book.demands()))
            except ListError:
                pass
        return book

    def test_to_the_beginning_and_forth_again(self):
        random = Random(101)
        for _ in range(40):
            book = Book(TOWN, Plan(Zone({BA: 1}), [STAY]))
            stands = [stood(book)]
            for _ in range(random.choice([3, 10, 80])):
                try:
                    book.do(drawn_deed(random, book.plan().changes(), book.demands()))
                    stands.append(stood(book))
                except ListError:
                    pass
            log = book.log()
            for _ in range(2):
                self.refuses(book, Nothing, {}, book.again)
                for at in reversed(range(len(log))):
                    self.assertEqual(book.back(), log[at])
                    self.assertEqual([stood(book), undone(book)], [stands[at], log[at:]])
                self.refuses(book, Nothing, {}, book.back)
                for at, deed in enumerate(log):
                    self.assertEqual(book.again(), deed)
                    self.assertEqual([stood(book), undone(book)], [stands[at + 1], log[at + 1:]])

    def test_a_deed_after_back(self):
        book = run(Book(TOWN, EMPTY), ("insert", 0, PUT), ("insert", 1, STAY), ("insert", 2, TAKE))
        self.assertEqual([book.back(), book.back()], [("insert", 2, TAKE), ("insert", 1, STAY)])
        self.refuses(book, BadChange, {"at": 0}, book.do, ("change", 0, TAKE))
        self.refuses(book, NoDeed, {}, book.do, None)
        self.assertEqual(undone(book), [("insert", 1, STAY), ("insert", 2, TAKE)])
        self.assertEqual(book.again(), ("insert", 1, STAY))
        book.do(("drop", 1))
        self.assertEqual([book.log(), undone(book)], [[("insert", 0, PUT), ("insert", 1, STAY), ("drop", 1)], []])
        self.refuses(book, Nothing, {}, book.again)
        self.assertEqual([book.back(), book.back(), book.again()], [("drop", 1), ("insert", 1, STAY), ("insert", 1, STAY)])
        self.assertEqual(undone(book), [("drop", 1)])
        book.do(("drop", 1))
        self.assertEqual(undone(book), [])

    def test_sixty_and_back(self):
        book = run(Book(TOWN, Plan(Zone({}), [STAY])), *[("change", 0, PUT)] * 60)
        self.assertEqual(len(book), 60)
        self.refuses(book, Full, {"limit": 60}, book.do, ("change", 0, STAY))
        self.assertEqual(book.back(), ("change", 0, PUT))
        self.refuses(book, NoDeed, {}, book.do, 0)
        self.assertEqual([book.again(), len(book)], [("change", 0, PUT), 60])
        self.refuses(book, Nothing, {}, book.again)

    def test_the_log_leads_to_the_plan_and_the_demands(self):
        random = Random(12)
        for _ in range(40):
            book = self.drawn_book(random, random.choice([5, 20, 90]))
            for _ in range(random.randint(0, 4)):
                if len(book):
                    book.back()
            first = book.until(0)
            self.assertEqual(first.log(), [])
            again = run(Book(TOWN, first.plan()), *book.log())
            self.assertEqual(stood(again), stood(book))
            self.assertTrue(again.plan() == book.plan() and again == book)

    def test_until(self):
        random = Random(102)
        for _ in range(30):
            book = self.drawn_book(random, random.choice([0, 5, 20, 90]))
            for _ in range(random.randint(0, 3)):
                if len(book):
                    book.back()
            log, ahead = book.log(), [stood(book), undone(book)]
            first = book.copied()
            while len(first):
                first.back()
            for many in range(len(log) + 1):
                other = book.until(many)
                expected = run(Book(TOWN, first.plan()), *log[:many])
                self.assertEqual([stood(other), undone(other)], [stood(expected), []])
                self.assertTrue(other == expected and other.plan() == expected.plan())
                self.assertEqual([other.back() for _ in range(many)], log[:many][::-1])
                self.assertEqual([stood(book), undone(book)], ahead)
            for thing in odd_values() + [len(log) + 1, 61, FAR, "0", (0,)]:
                self.refuses(book, NoEntry, {"entry": thing}, book.until, thing)

    def test_copied(self):
        random = Random(103)
        for _ in range(30):
            book = self.drawn_book(random, random.choice([0, 5, 20]))
            for _ in range(random.randint(0, 3)):
                if len(book):
                    book.back()
            ahead = [stood(book), undone(book)]
            other = book.copied()
            self.assertTrue(other == book)
            self.assertEqual([stood(other), undone(other)], ahead)
            other.do(("demand", FREE) if len(other.demands()) < 8 else ("release", 0))
            self.assertEqual([stood(book), undone(book)], ahead)
            self.assertIs(other == book, False)
            behind = [stood(other), undone(other)]
            while undone(book):
                book.again()
            while len(book):
                book.back()
            self.assertEqual([stood(other), undone(other)], behind)

    def test_equal(self):
        other_town = Town([(9, 8, LAST)], [(HOST, 0), (Host([B]), 0)])
        makers = [lambda: Book(TOWN, EMPTY), lambda: Book(other_town, EMPTY), lambda: Book(TOWN, Plan(Zone({}), [STAY])),
                  lambda: Book(TOWN, Plan(Zone({BA: 1}), [])), lambda: run(Book(TOWN, EMPTY), ("insert", 0, STAY)),
                  lambda: run(Book(TOWN, EMPTY), ("insert", 0, PUT)), lambda: run(Book(TOWN, EMPTY), ("demand", FREE)),
                  lambda: run(Book(TOWN, EMPTY), ("demand", (0, 0, B, [(BA, 1), None]))),
                  lambda: run(Book(TOWN, EMPTY), ("insert", 0, STAY), ("drop", 0)),
                  lambda: run(Book(TOWN, Plan(Zone({}), [STAY])), ("drop", 0))]
        for at, make in enumerate(makers):
            for beside, other in enumerate(makers):
                self.assertIs(make() == other(), at == beside)
                self.assertIs(make() != other(), at != beside)
        book = run(Book(TOWN, EMPTY), ("insert", 0, STAY))
        book.back()
        self.assertTrue(book == Book(TOWN, EMPTY))
        for thing in odd_values() + [EMPTY, TOWN, []]:
            if not isinstance(thing, Book):
                self.assertIs(Book(TOWN, EMPTY) == thing, False)


class TestTried(Books):

    def test_no_list(self):
        book = run(Book(TOWN, EMPTY), ("insert", 0, STAY))
        book.back()
        for thing in odd_values() + [(("insert", 0, STAY),), ("insert", 0, STAY), (), {}, None]:
            if not isinstance(thing, list):
                self.refuses(book, Wrong, {"place": 0}, book.tried, thing)

    def test_no_deeds(self):
        book = run(Book(TOWN, EMPTY), ("insert", 0, PUT), ("insert", 1, TAKE), ("insert", 0, STAY))
        book.back()
        book.back()
        ahead = [stood(book), undone(book)]
        other = book.tried([])
        self.assertEqual([stood(other), undone(other)], ahead)
        self.assertTrue(other == book)
        self.assertEqual([other.again(), other.again()], [("insert", 1, TAKE), ("insert", 0, STAY)])
        other.do(("drop", 0))
        self.assertEqual([stood(book), undone(book)], ahead)

    def test_right_ones(self):
        book = run(Book(TOWN, EMPTY), ("insert", 0, PUT), ("insert", 1, STAY))
        book.back()
        ahead = [stood(book), undone(book)]
        deeds = [("insert", 1, TAKE), ("demand", (0, 0, B, [None, (BA, 1)])), ("change", 0, ("put", BA, 5)), ("insert", 0, STAY)]
        kept = [("insert", 1, TAKE), ("demand", FREE), ("change", 0, ("put", BA, 5)), ("insert", 0, STAY)]
        other = book.tried(deeds)
        deeds[1][1][3].clear()
        self.assertEqual(stood(other), [[STAY, ("put", BA, 5), TAKE], [FREE], [("insert", 0, PUT)] + kept, 5])
        self.assertEqual([undone(other), stood(book), undone(book)], [[], *ahead])
        while len(other):
            other.back()
        self.assertEqual([stood(book), undone(book)], ahead)

    def test_refused_ones(self):
        book = run(Book(TOWN, EMPTY), ("insert", 0, PUT), ("insert", 1, STAY))
        book.back()
        ahead = [stood(book), undone(book)]
        many = [("change", 0, PUT)] * 59
        for deeds, at, error, fields in [
                ([None], 0, NoDeed, {}), ([("drop", 0), ("drop", 0)], 1, NoEntry, {"entry": 0}),
                ([("insert", 1, TAKE), ("insert", 2, TAKE), 0], 1, BadChange, {"at": 2}), ([("drop", 1), ("drop",)], 0, NoEntry, {"entry": 1}),
                ([("insert", 0, STAY)] * 12, 9, Full, {"limit": 10}), ([("demand", FREE)] * 9, 8, Full, {"limit": 8}),
                (many + [("drop", 0)], 59, Full, {"limit": 60}), ([("drop", 0), ("stay",)], 1, NoDeed, {}),
                ([[]], 0, NoDeed, {}), ([("insert", 1, STAY), ("demand", (0, 2, B, []))], 1, NoDeed, {})]:
            with self.assertRaises(Broken) as caught:
                book.tried(deeds)
            self.assertIs(type(caught.exception), Broken)
            self.assertEqual(vars(caught.exception), {"at": at})
            self.assertIs(type(caught.exception.__cause__), error)
            self.assertEqual(vars(caught.exception.__cause__), fields)
            self.assertEqual([stood(book), undone(book)], ahead)
        for thing in odd_values():
            with self.assertRaises(Broken) as caught:
                book.tried([("drop", 0), thing, thing])
            self.assertEqual(caught.exception.at, 1)
            self.assertIs(type(caught.exception.__cause__), NoDeed)


class TestBlock(Books):

    def test_what_act_returns(self):
        book = run(Book(TOWN, EMPTY), ("insert", 0, PUT))
        for thing in [None, 0, False, [], "a", book, ValueError()]:
            self.assertIs(book.block(lambda given: thing), thing)
        self.assertIs(book.block(lambda given: given), book)
        self.assertEqual(book.block(Book.back), ("insert", 0, PUT))
        self.assertEqual(book.block(Book.again), ("insert", 0, PUT))
        def act(given):
            given.do(("insert", 1, TAKE))
            given.do(("demand", FREE))
            return given.back()
        self.assertEqual(book.block(act), ("demand", FREE))
        self.assertEqual([stood(book), undone(book)],
                         [[[PUT, TAKE], [], [("insert", 0, PUT), ("insert", 1, TAKE)], 2], [("demand", FREE)]])

    def test_errors(self):
        class Other(Exception):
            pass
        for make in (Other, ValueError, NoDeed, ZeroDivisionError, KeyboardInterrupt, StopIteration):
            book = run(Book(TOWN, EMPTY), ("insert", 0, PUT), ("insert", 1, STAY), ("demand", FREE), ("release", 0))
            book.back()
            book.back()
            ahead, error = [stood(book), undone(book)], make()
            def raises(given):
                raise error
            def deeds(given):
                given.do(("drop", 1))
                given.do(("insert", 0, STAY))
                given[0] = ("put", AB, 1)
                raise error
            def back(given):
                given.back()
                given.again()
                given.again()
                given.back()
                raise error
            def beginning(given):
                while len(given):
                    given.back()
                given.do(("insert", 0, STAY))
                raise error
            def inner(given):
                given.do(("insert", 0, STAY))
                given.block(deeds)
            for act in (raises, deeds, back, beginning, inner):
                with self.assertRaises(make) as caught:
                    book.block(act)
                self.assertIs(caught.exception, error)
                self.assertEqual([stood(book), undone(book)], ahead)
            self.assertEqual([book.again(), book.again()], [("demand", FREE), ("release", 0)])

    def test_errors_of_the_book(self):
        book = run(Book(TOWN, EMPTY), ("insert", 0, PUT))
        def act(given):
            given.do(("drop", 0))
            given.do(("drop", 0))
        self.refuses(book, NoEntry, {"entry": 0}, book.block, act)
        self.refuses(book, NoDeed, {}, book.block, lambda given: given.do(None))

    def test_blocks_in_blocks(self):
        book = Book(TOWN, EMPTY)
        def inner(given):
            given.do(("insert", 0, STAY))
            raise NoDeed()
        def outer(given):
            given.do(("insert", 0, PUT))
            try:
                given.block(inner)
            except NoDeed:
                given.do(("insert", 1, TAKE))
            return 5
        self.assertEqual(book.block(outer), 5)
        self.assertEqual(book.log(), [("insert", 0, PUT), ("insert", 1, TAKE)])


class TestCopies(Books):

    def test_lists_that_are_passed(self):
        answers = [None, (BA, 1)]
        demand = (0, 0, B, answers)
        book = Book(TOWN, EMPTY)
        book.do(("demand", demand))
        other = book.tried([("demand", demand)])
        answers.clear()
        self.assertEqual([book.demands(), book.log()], [[FREE], [("demand", FREE)]])
        self.assertEqual(other.demands(), [FREE, FREE])
        zone, changes = Zone({}), [STAY]
        plan = Plan(zone, changes)
        book = Book(TOWN, plan)
        zone[A] = 1
        changes.clear()
        self.assertTrue(book.plan() == Plan(Zone({}), [STAY]))

    def test_lists_that_are_returned(self):
        book = run(Book(TOWN, Plan(Zone({}), [STAY])), ("demand", FREE), ("demand", FREE), ("insert", 0, PUT))
        book.back()
        ahead = [stood(book), undone(book)]
        book.plan().changes().clear()
        book.plan().zone_behind(0)[A] = 1
        book.demands()[0][3].clear()
        book.demands().clear()
        book.log()[0][1][3].clear()
        book.log().clear()
        other = book.copied()
        other.back()[1][3].clear()
        self.assertEqual(other.again(), ("demand", FREE))
        other.back()
        other.again()[1][3].clear()
        self.assertEqual([stood(other), stood(book), undone(book)], [ahead[0], *ahead])
        found = book.demands()
        found[0][3].append((A, 1))
        self.assertEqual(found[1], FREE)
        found = book.log()
        found[0][1][3].append((A, 1))
        self.assertEqual([found[1], book.log(), FREE], [("demand", FREE), [("demand", FREE)] * 2, (0, 0, B, [None, (BA, 1)])])

    def test_a_list_that_is_taken_back(self):
        answers = [None, (BA, 1)]
        book = run(Book(TOWN, EMPTY), ("demand", (0, 0, B, answers)))
        found = book.back()
        found[1][3].clear()
        answers.append((BA, 9))
        self.assertEqual(book.again(), ("demand", FREE))
        self.assertEqual(book.demands(), [FREE])
