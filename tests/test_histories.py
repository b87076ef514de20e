"""Histories, [71] with what [2] says of moments and of changes."""

import unittest
from random import Random

from listnames.errors import BadChange, Wrong
from listnames.histories import History
from listnames.zones import Zone
from things import odd_values, shorts_upto
from townsbyhand import drawn_history

A, B, AB, BA = ("a",), ("b",), ("a", "b"), ("b", "a")
STAY = ("stay",)
LEAST, GREATEST = -1000000, 1000000


def letters(many):
    """So many names."""
    return [("n" + first + second,) for first in "ab" for second in "abcdefghijklmnopqrstuvwxyz"][:many]


class TestMaking(unittest.TestCase):

    def wrong(self, place, zone, changes):
        with self.assertRaises(Wrong) as caught:
            History(zone, changes)
        self.assertEqual(caught.exception.place, place)

    def bad(self, at, zone, changes):
        with self.assertRaises(BadChange) as caught:
            History(zone, changes)
        self.assertEqual(caught.exception.at, at)

    def test_copies(self):
        for make in (list, tuple):
            zone, changes = Zone({A: 1}), [(0, ("put", B, 2)), (5, ("take", A))]
            history = History(zone, make(changes))
            zone[BA] = 9
            kept = list(changes)
            changes.clear()
            history.changes().clear()
            self.assertEqual([history.changes(), len(history)], [kept, 2])
            history.zone_at(3)[AB] = 1
            for moment, values in [(-1, {A: 1}), (0, {A: 1, B: 2}), (4, {A: 1, B: 2}), (5, {B: 2})]:
                self.assertTrue(history.zone_at(moment) == Zone(values))

    def test_copies_a_list_that_changes(self):
        changes = [(0, STAY)]
        history = History(Zone({}), changes)
        changes.append((1, STAY))
        self.assertEqual([len(history), history.changes()], [1, [(0, STAY)]])

    def test_wrong_zone(self):
        for thing in odd_values():
            if not isinstance(thing, Zone):
                self.wrong(0, thing, [])
                self.wrong(0, thing, [(1, STAY), (1, STAY)])
                self.wrong(0, thing, None)

    def test_wrong_changes(self):
        for thing in odd_values() + [STAY, {0: STAY}, iter([(0, STAY)])]:
            if thing not in ([], ()):
                self.wrong(1, Zone({}), thing)
        for thing in odd_values() + [(0, STAY, 0), [0, STAY], (0,), (STAY, 0), STAY, (0, "stay"), (0, ["stay"])]:
            self.wrong(1, Zone({}), [thing])
            self.wrong(1, Zone({}), ((0, STAY), thing))

    def test_wrong_moments(self):
        for moment in (LEAST, -1, 0, GREATEST):
            self.assertEqual(len(History(Zone({}), [(moment, STAY)])), 1)
        for thing in odd_values() + [LEAST - 1, GREATEST + 1, "0", None]:
            if thing != -1:
                self.wrong(1, Zone({}), [(thing, STAY)])

    def test_kinds_of_changes(self):
        for change in [("put", A, 0), ("put", ("a",) * 12, 999), ("take", B), STAY]:
            self.assertEqual(History(Zone({B: 1}), [(0, change)]).changes(), [(0, change)])
        bad = [("put", A), ("put", A, 0, 0), ("put", (), 0), ("put", A, 1000), ("put", A, -1), ("put", A, True), ("take",),
               ("put", "a", 0), ("put", ["a"], 0), ("take", B, 1), ("take", ()), ("take", "b"), ("stay", 0), ("stay", None),
               (), ("keep",), ("wait", 1), ("Put", A, 0), ["stay"], ("stay", ()), (b"stay",), ("put", 0, A), "stay"]
        for thing in bad:
            self.wrong(1, Zone({B: 1}), [(0, thing)])
        for thing in odd_values():
            self.wrong(1, Zone({B: 1}), [(0, (thing,))])
            self.wrong(1, Zone({B: 1}), [(0, ("take", thing))])
            self.wrong(1, Zone({B: 1}), [(0, ("put", thing, 1))])
            self.wrong(1, Zone({B: 1}), [(0, ("put", A, thing))])

    def test_forty_changes(self):
        for make in (list, tuple):
            self.assertEqual(len(History(Zone({}), make((at, STAY) for at in range(40)))), 40)
            self.wrong(1, Zone({}), make((at, STAY) for at in range(41)))
            self.wrong(1, Zone({}), make((0, STAY) for at in range(41)))

    def test_moments_that_are_not_later(self):
        self.bad(1, Zone({}), [(0, STAY), (0, STAY)])
        self.bad(1, Zone({}), [(0, STAY), (-1, STAY), (-2, STAY)])
        self.bad(2, Zone({}), [(0, STAY), (1, STAY), (1, STAY), (0, ("take", A))])
        self.assertEqual(len(History(Zone({}), [(-1, STAY), (0, STAY), (1, STAY)])), 3)

    def test_names_that_are_not_there(self):
        self.bad(0, Zone({}), [(0, ("take", A))])
        self.bad(0, Zone({AB: 1}), [(0, ("take", B)), (0, STAY)])
        self.bad(2, Zone({A: 1}), [(0, ("take", A)), (1, ("put", B, 1)), (2, ("take", A))])
        self.bad(1, Zone({A: 1}), [(0, STAY), (1, ("take", B)), (1, STAY)])
        self.assertEqual(len(History(Zone({}), [(0, ("put", A, 1)), (1, ("take", A)), (2, ("put", A, 1))])), 3)

    def test_more_than_thirty_names(self):
        values = {name: 1 for name in letters(29)}
        history = History(Zone(values), [(0, ("put", A, 1)), (1, ("put", A, 2)), (2, ("take", A)), (3, ("put", B, 3))])
        self.assertEqual([len(history.zone_at(moment)) for moment in (-1, 0, 1, 2, 3)], [29, 30, 30, 29, 30])
        self.bad(1, Zone(values), [(0, ("put", A, 1)), (1, ("put", B, 1))])
        self.bad(0, Zone({**values, B: 1}), [(0, ("put", A, 1))])

    def test_the_least_index_is_told(self):
        self.bad(1, Zone({}), [(0, STAY), (1, ("take", A)), (1, STAY)])
        self.bad(1, Zone({}), [(0, STAY), (0, STAY), (1, ("take", A))])


class TestQueries(unittest.TestCase):

    def test_zone_at(self):
        random = Random(71)
        for _ in range(200):
            zone, changes, stood = drawn_history(random, random.choice([0, 1, 2, 5, 40]))
            history = History(zone, changes)
            for moment in range(-30, 60):
                many = len([at for at, _ in changes if at <= moment])
                self.assertTrue(history.zone_at(moment) == Zone(stood[many]))
            self.assertTrue(history.zone_at(GREATEST) == Zone(stood[-1]))
            self.assertTrue(history.zone_at(LEAST) == Zone(stood[0]))

    def spans_by_hand(self, history, name):
        """The stretches, moment by moment."""
        moments = [moment for moment, _ in history.changes()]
        low, high = (min(moments) - 1, max(moments) + 1) if moments else (0, 0)
        found = []
        for moment in range(low, high + 1):
            zone = history.zone_at(moment)
            told = (zone.state(name), zone[name] if name in zone else None)
            if found and found[-1][0] == told:
                found[-1][2] = moment
            else:
                found.append([told, moment, moment])
        found[0][1] = found[-1][2] = None
        return [(*told, first, last) for told, first, last in found]

    def test_spans(self):
        random = Random(710)
        for _ in range(150):
            zone, changes, _ = drawn_history(random, random.choice([0, 1, 2, 5, 40]))
            history = History(zone, changes)
            for name in shorts_upto(3, "ab"):
                self.assertEqual(history.spans(name), self.spans_by_hand(history, name))

    def test_spans_of_all_states(self):
        changes = [(0, ("put", A, 1)), (3, ("put", A, 1)), (5, ("put", A, 2)), (6, ("put", BA, 7)), (7, ("take", A)), (8, STAY),
                   (9, ("take", BA))]
        history = History(Zone({}), changes)
        self.assertEqual(history.spans(A), [("lost", None, None, -1), ("found", 1, 0, 4), ("found", 2, 5, 6),
                                            ("empty", None, 7, 8), ("lost", None, 9, None)])
        self.assertEqual(history.spans(BA), [("lost", None, None, 5), ("found", 7, 6, 8), ("lost", None, 9, None)])
        self.assertEqual(history.spans(("z",)), [("lost", None, None, None)])
        self.assertEqual(History(Zone({A: 3}), []).spans(A), [("found", 3, None, None)])
        self.assertEqual(History(Zone({BA: 3}), [(4, STAY)]).spans(A), [("empty", None, None, None)])
        history.spans(A).clear()
        self.assertEqual(len(history.spans(A)), 5)

    def test_equal(self):
        made = [History(Zone(values), changes) for values in ({}, {A: 1}, {A: 2}, {B: 1})
                for changes in ([], [(0, STAY)], [(1, STAY)], [(0, ("put", A, 1))], [(0, ("put", A, 1)), (1, STAY)])]
        again = [History(one.zone_at(LEAST - 1), tuple(one.changes())) for one in made]
        for at, one in enumerate(made):
            for beside, other in enumerate(again):
                self.assertIs(one == other, at == beside)
                self.assertIs(one != other, at != beside)
        for thing in odd_values() + [[(0, STAY)]]:
            self.assertIs(made[1] == thing, False)


class TestThen(unittest.TestCase):

    def test_further_changes(self):
        history = History(Zone({A: 1}), [])
        steps = [(0, ("take", A)), (1, STAY), (7, ("put", AB, 2)), (GREATEST, ("put", AB, 3))]
        for at, (moment, change) in enumerate(steps):
            further = history.then(moment, change)
            self.assertEqual([len(history), len(further), further.changes()], [at, at + 1, steps[:at + 1]])
            self.assertTrue(further == History(Zone({A: 1}), steps[:at + 1]))
            history = further

    def test_wrong(self):
        history = History(Zone({}), [(0, STAY)])
        for thing in odd_values() + [LEAST - 1, GREATEST + 1, "0"]:
            if thing != -1:
                with self.assertRaises(Wrong) as caught:
                    history.then(thing, ("take", 5))
                self.assertEqual(caught.exception.place, 0)
        for thing in odd_values() + [("stay", 1), ("put", A), ["stay"], ("take", ())]:
            with self.assertRaises(Wrong) as caught:
                history.then(-5, thing)
            self.assertEqual(caught.exception.place, 1)

    def bad(self, history, moment, change):
        with self.assertRaises(BadChange) as caught:
            history.then(moment, change)
        self.assertEqual(caught.exception.at, len(history))

    def test_bad_changes(self):
        history = History(Zone({A: 1}), [(0, STAY), (5, ("take", A))])
        for moment, change in [(5, STAY), (4, STAY), (LEAST, STAY), (6, ("take", A)), (6, ("take", B)), (5, ("take", A))]:
            self.bad(history, moment, change)
        self.bad(History(Zone({name: 1 for name in letters(30)}), []), 0, ("put", A, 1))
        self.assertEqual(len(history), 2)

    def test_behind_forty(self):
        history = History(Zone({A: 1}), [(at, STAY) for at in range(39)])
        full = history.then(39, STAY)
        self.assertEqual(len(full), 40)
        for moment, change in [(40, STAY), (40, ("put", B, 1)), (39, STAY), (50, ("take", B))]:
            self.bad(full, moment, change)
        with self.assertRaises(Wrong):
            full.then(40, ("stay", 1))
