"""Plans and demands, [90] with [71]."""

import unittest
from random import Random

from byhand import drawn_host
from listnames.errors import BadChange, NoEntry, NoHouse, Wrong
from listnames.histories import History
from listnames.hosts import Host
from listnames.plans import Plan, honest, is_demand
from listnames.towns import Town
from listnames.zones import Zone
from things import odd_values, shorts_upto
from townsbyhand import A, AB, B, BA, STAY, answer_in, drawn_changes, values_by_hand

FAR = 10 ** 39
LAST = {(): None}
PUT, TAKE = ("put", A, 1), ("take", A)
TOWN = Town([(9, 9, LAST)], [(Host([A]), 0), (Host([B]), 0)])


def letters(many):
    return [("n" + first + second,) for first in "ab" for second in "abcdefghijklmnopqrstuvwxyz"][:many]


class TestMaking(unittest.TestCase):

    def wrong(self, place, zone, changes):
        with self.assertRaises(Wrong) as caught:
            Plan(zone, changes)
        self.assertIs(type(caught.exception), Wrong)
        self.assertEqual(caught.exception.place, place)

    def bad(self, at, zone, changes):
        for make in (list, tuple):
            with self.assertRaises(BadChange) as caught:
                Plan(zone, make(changes))
            self.assertIs(type(caught.exception), BadChange)
            self.assertEqual(caught.exception.at, at)

    def test_wrong_zone(self):
        for thing in odd_values() + [{A: 1}]:
            if not isinstance(thing, Zone):
                self.wrong(0, thing, [])
                self.wrong(0, thing, [TAKE])
                self.wrong(0, thing, None)

    def test_wrong_changes(self):
        for thing in odd_values() + [STAY, {0: STAY}, iter([STAY]), "stay"]:
            self.wrong(1, Zone({}), thing)
        bad = [("put", A), ("put", A, 0, 0), ("put", (), 0), ("put", A, 1000), ("put", A, -1), ("put", A, True), ("take",),
               ("put", "a", 0), ("put", ["a"], 0), ("take", B, 1), ("take", ()), ("take", "b"), ("stay", 0), ("stay", None),
               (), ("keep",), ("wait", 1), ("Put", A, 0), ["stay"], ["put", A, 1], ("stay", ()), (0, STAY), "stay"]
        for thing in odd_values() + bad:
            for make in (list, tuple):
                self.wrong(1, Zone({}), make([thing]))
                self.wrong(1, Zone({}), make([TAKE, thing]))
                self.wrong(1, Zone({}), make([STAY] * 9 + [thing]))
        for thing in odd_values():
            self.wrong(1, Zone({A: 1}), [("put", A, thing)])
            self.wrong(1, Zone({A: 1}), [("put", thing, 1)])
            self.wrong(1, Zone({A: 1}), [("take", thing)])
            self.wrong(1, Zone({A: 1}), [(thing,)])

    def test_ten_changes(self):
        for make in (list, tuple):
            for many in range(11):
                self.assertEqual(len(Plan(Zone({}), make([STAY] * many))), many)
            for many in (11, 12, 40):
                self.wrong(1, Zone({}), make([STAY] * many))
                self.wrong(1, Zone({}), make([TAKE] * many))

    def test_bad_changes(self):
        self.bad(0, Zone({}), [TAKE])
        self.bad(0, Zone({AB: 1}), [TAKE, TAKE])
        self.bad(1, Zone({A: 1}), [TAKE, TAKE, TAKE])
        self.bad(2, Zone({}), [PUT, TAKE, TAKE, PUT])
        self.bad(9, Zone({}), [STAY] * 9 + [TAKE])
        values = {name: 1 for name in letters(29)}
        self.bad(1, Zone(values), [PUT, ("put", B, 1), TAKE])
        self.bad(0, Zone({**values, B: 1}), [PUT])
        self.assertEqual(len(Plan(Zone(values), [PUT, ("put", A, 2), TAKE, ("put", B, 1)])), 4)

    def test_copies(self):
        zone, changes = Zone({B: 1}), [PUT, STAY]
        plan = Plan(zone, changes)
        zone[BA] = 5
        changes.append(TAKE)
        plan.changes().clear()
        plan.zone_behind(0)[BA] = 3
        plan.zone_behind(1)[BA] = 3
        plan.history([0, 1]).zone_at(-5)[BA] = 3
        self.assertEqual([plan.changes(), len(plan)], [[PUT, STAY], 2])
        self.assertTrue(plan.zone_behind(0) == Zone({B: 1}) and plan.zone_behind(2) == Zone({A: 1, B: 1}))
        self.assertTrue(plan == Plan(Zone({B: 1}), (PUT, STAY)))

    def test_equal(self):
        made = [(values, changes) for values in ({}, {A: 1}, {A: 2}, {B: 1})
                for changes in ([], [STAY], [PUT], [("put", A, 2)], [("put", B, 1)], [PUT, STAY], [STAY, PUT], [PUT, TAKE])]
        for at, one in enumerate(made):
            for beside, other in enumerate(made):
                self.assertIs(Plan(Zone(one[0]), one[1]) == Plan(Zone(other[0]), tuple(other[1])), at == beside)
                self.assertIs(Plan(Zone(one[0]), one[1]) != Plan(Zone(other[0]), tuple(other[1])), at != beside)
        for thing in odd_values() + [[STAY], History(Zone({}), [(0, STAY)])]:
            self.assertIs(Plan(Zone({}), [STAY]) == thing, False)
        self.assertIs(Plan(Zone({}), []) == History(Zone({}), []), False)


class TestQueries(unittest.TestCase):

    def test_zone_behind(self):
        random = Random(90)
        for _ in range(100):
            values, changes = drawn_changes(random, random.randint(0, 10))
            plan, moved = Plan(Zone(values), changes), list(enumerate(changes))
            self.assertEqual([plan.changes(), len(plan)], [changes, len(changes)])
            for many in range(len(changes) + 1):
                self.assertTrue(plan.zone_behind(many) == Zone(values_by_hand(values, moved, many - 1)))

    def test_no_entry(self):
        for many in (0, 1, 10):
            plan = Plan(Zone({}), [STAY] * many)
            self.assertTrue(plan.zone_behind(many) == Zone({}))
            for thing in odd_values() + [many + 1, many + 2, 11, -1, FAR, "0", (0,), None]:
                with self.assertRaises(NoEntry) as caught:
                    plan.zone_behind(thing)
                self.assertIs(type(caught.exception), NoEntry)
                self.assertIs(caught.exception.entry, thing)

    def test_history(self):
        random = Random(91)
        for _ in range(100):
            values, changes = drawn_changes(random, random.randint(0, 10))
            plan, times, moment = Plan(Zone(values), changes), [], random.choice([0, -1000000, 5, 999900])
            for _ in changes:
                times.append(moment)
                moment += random.choice([1, 2, 9])
            kept = list(times)
            history = plan.history(times)
            self.assertTrue(history == History(Zone(values), list(zip(times, changes))))
            self.assertEqual(times, kept)
            times.clear()
            self.assertEqual(history.changes(), list(zip(kept, changes)))
            for moment in [first + more for first in kept for more in (-1, 0)] + [-FAR, FAR]:
                self.assertTrue(history.zone_at(moment) == Zone(values_by_hand(values, list(zip(kept, changes)), moment)))

    def test_times_that_begin_anywhere(self):
        plan = Plan(Zone({B: 1}), [PUT, TAKE, STAY])
        for first in (0, -1000000, 999998, 1000000, -FAR, FAR):
            history = plan.history([first, first + 1, first + 50])
            self.assertEqual(history.changes(), [(first, PUT), (first + 1, TAKE), (first + 50, STAY)])
            self.assertEqual(history.spans(A), [("lost", None, None, first - 1), ("found", 1, first, first),
                                                ("lost", None, first + 1, None)])
        self.assertEqual(len(plan.history([0, 1, 2]).then(3, PUT)), 4)
        self.assertTrue(Plan(Zone({B: 1}), []).history([]) == History(Zone({B: 1}), []))

    def test_fewer_times(self):
        """The least times are looked for by histories of the first changes alone."""
        plan = Plan(Zone({}), [PUT, TAKE, STAY])
        for many in range(4):
            times = [5, 7, 9][:many]
            history = plan.history(times)
            self.assertTrue(history == History(Zone({}), list(zip(times, plan.changes()))))
            self.assertTrue(history.then(10, ("put", B, 1)).zone_at(10) == plan.zone_behind(many) | Zone({B: 1}))

    def test_the_history_goes_on_by_itself(self):
        plan = Plan(Zone({}), [PUT])
        history = plan.history([0])
        further = history.then(5, TAKE)
        self.assertEqual([len(plan), len(history), len(further)], [1, 1, 2])
        self.assertTrue(history == plan.history([0]) and history.zone_at(9) == Zone({A: 1}) and further.zone_at(9) == Zone({}))
        with self.assertRaises(BadChange) as caught:
            plan.history([FAR]).then(0, STAY)
        self.assertEqual(caught.exception.at, 1)


class TestDemands(unittest.TestCase):

    def test_right_ones(self):
        answers = [(("n" + sign,), 999) for sign in "abcdefghij"]
        for first in range(11):
            for house in (0, 1):
                self.assertIs(is_demand(TOWN, (first, house, A, [])), True)
        for short in [A, AB, ("a",) * 8, ("abcdefgh",)]:
            self.assertIs(is_demand(TOWN, (0, 0, short, [None])), True)
        for allowed in [[], [None], [(A, 0)], [(A, 0), (A, 1)], [(A, 0), (B, 0), None], answers + [None], [(("a",) * 12, 1)],
                        [None, (B, 5), (A, 1)]]:
            kept = list(allowed)
            self.assertIs(is_demand(TOWN, (0, 0, A, allowed)), True)
            self.assertEqual(allowed, kept)

    def test_bounds(self):
        answers = [(("n" + sign,), 999) for sign in "abcdefghijk"]
        for first in [-1, 11, 12, FAR, True, False, "0", None, (0,)]:
            self.assertIs(is_demand(TOWN, (first, 0, A, [])), False)
        for house in [-1, 2, 3, FAR, True, False, "0", None]:
            self.assertIs(is_demand(TOWN, (0, house, A, [])), False)
        for short in [(), ("a",) * 9, ("a",) * 12, "a", ["a"], ("A",), ("abcdefghi",), ("a", 1), None, 0]:
            self.assertIs(is_demand(TOWN, (0, 0, short, [])), False)
        self.assertIs(is_demand(TOWN, (0, 0, A, answers)), True)
        for allowed in [(), (None,), None, {None: 1}, "", 0, answers + [None], answers * 2, [None, None], [(A, 0), None, (A, 0)],
                        [(A, 1000)], [(A, -1)], [(A, True)], [(A, False)], [[A, 0]], [(A,)], [(A, 0, 0)], [((), 0)], [("a", 0)],
                        [(["a"], 0)], [A], [0], [False], [()], [[]], [(A, None)], [(None, 0)], [(A, "0")], [(("A",), 0)]]:
            self.assertIs(is_demand(TOWN, (0, 0, A, allowed)), False, allowed)

    def test_other_forms(self):
        for thing in odd_values() + [[0, 0, A, []], (0, 0, A), (0, 0, A, [], 0), (0, 0, A, [], []), (A, 0, 0, []), (0, 0, [], A),
                                     {0: 0}, ((0, 0, A, []),), [(0, 0, A, [])], None, ()]:
            self.assertIs(is_demand(TOWN, thing), False)
        for thing in odd_values():
            for demand in [(thing, 0, A, []), (0, thing, A, []), (0, 0, thing, []), (0, 0, A, thing), (0, 0, A, [(thing, 0)]),
                           (0, 0, A, [(A, thing)]), (0, 0, A, [None, (thing,)])]:
                self.assertIs(is_demand(TOWN, demand), False)
            self.assertIs(is_demand(TOWN, (0, 0, A, [thing])), thing is None)

    def test_houses_of_the_town(self):
        for many in range(1, 5):
            town = Town([(9, 9, LAST)], [(Host([A]), 0)] * many)
            self.assertEqual([is_demand(town, (0, house, A, [])) for house in range(5)], [house < many for house in range(5)])


class TestHonest(unittest.TestCase):

    def test_drawn(self):
        random = Random(92)
        several = 0
        for _ in range(400):
            values, changes = drawn_changes(random, random.randint(0, 10))
            hosts = [drawn_host(random, 3, "ab") for _ in range(2)] + [Host([A, B])]
            town = Town([(9, 9, LAST)], [(host, 0) for host in hosts])
            plan, moved = Plan(Zone(values), changes), list(enumerate(changes))
            for house, host in enumerate(hosts):
                short = random.choice(shorts_upto(2, "ab"))
                expected = []
                for at in range(-1, len(changes)):
                    answer = answer_in(values_by_hand(values, moved, at), host, short)
                    if answer not in expected:
                        expected.append(answer)
                found = honest(plan, town, house, short)
                self.assertEqual(found, (0, house, short, expected))
                self.assertIs(is_demand(town, found), True)
                several += len(expected) > 2
                found[3].clear()
                self.assertEqual(honest(plan, town, house, short), (0, house, short, expected))
        self.assertGreater(several, 50)

    def test_order(self):
        changes = [("put", BA, 5), ("put", BA, 2), ("take", BA), ("put", BA, 5), ("put", BA, 1)]
        self.assertEqual(honest(Plan(Zone({}), changes), TOWN, 0, B), (0, 0, B, [None, (BA, 5), (BA, 2), (BA, 1)]))
        self.assertEqual(honest(Plan(Zone({}), []), TOWN, 1, B), (0, 1, B, [None]))
        many = [("put", BA, at) for at in range(10)]
        self.assertEqual(honest(Plan(Zone({}), many), TOWN, 0, B), (0, 0, B, [None] + [(BA, at) for at in range(10)]))

    def test_no_house(self):
        for thing in odd_values() + [2, 3, -1, "0", (0,)]:
            with self.assertRaises(NoHouse) as caught:
                honest(Plan(Zone({}), []), TOWN, thing, A)
            self.assertIs(type(caught.exception), NoHouse)
            self.assertIs(caught.exception.house, thing)
