"""How long keepers may keep, [92] with [91] and [70]."""

import unittest
from random import Random

from listnames.hosts import Host
from listnames.keeps import greatest_keep, greatest_keeps
from listnames.plans import Plan, honest
from listnames.towns import Town
from listnames.waits import keeps, least_times
from listnames.zones import Zone
from test_waits import waiting_case
from townsbyhand import A, B, STAY

LAST = {(): None}
X, XA, XB = ("x",), ("x", "a"), ("x", "b")


def by_hand(town, plan, demands, times, keeper, kind):
    """The greatest number, all of them tried from 0 on."""
    best = None
    for number in range(1001):
        if keeps(town.with_keep(keeper, kind, number), plan, demands, times):
            best = number
    return best


class TestKeeps(unittest.TestCase):

    def check(self, town, plan, demands, times, expected):
        """The list of both for all keepers, and each of them alone."""
        self.assertEqual(greatest_keeps(town, plan, demands, times), expected)
        for keeper, row in enumerate(expected):
            for kind, number in zip(("found", "lost"), row):
                self.assertEqual(greatest_keep(town, plan, demands, times, keeper, kind), number)

    def test_all_numbers_one_by_one(self):
        random = Random(92)
        seen = {"none": 0, "all": 0, "between": 0}
        for _ in range(16):
            case = waiting_case(random, 1, 3, [0, 2, 40])
            times = [0]
            for _ in case.changes[1:]:
                times.append(times[-1] + random.choice([1, 3, 40, 300]))
            expected = [tuple(by_hand(case.town, case.plan, case.demands, times, keeper, kind) for kind in ("found", "lost"))
                        for keeper in range(2)]
            self.check(case.town, case.plan, case.demands, times, expected)
            for number in [number for row in expected for number in row]:
                seen["none" if number is None else "all" if number == 1000 else "between"] += 1
        self.assertGreater(min(seen.values()), 5, seen)

    def test_just_where_a_demand_breaks(self):
        random = Random(920)
        many = 0
        for _ in range(80):
            case = waiting_case(random, 1, 6, [0, 3, 100])
            times = [0]
            for _ in case.changes[1:]:
                times.append(times[-1] + random.choice([1, 5, 110, 500]))
            for keeper, row in enumerate(greatest_keeps(case.town, case.plan, case.demands, times)):
                for kind, number in zip(("found", "lost"), row):
                    kept = [at for at in (0, number, 1000) if at is not None]
                    broken = [0] if number is None else [number + 1, number + 2] if number < 999 else []
                    for at in kept if number is not None else []:
                        if at <= number:
                            self.assertIs(keeps(case.town.with_keep(keeper, kind, at), case.plan, case.demands, times), True)
                    for at in broken:
                        self.assertIs(keeps(case.town.with_keep(keeper, kind, at), case.plan, case.demands, times), False)
                    many += number is not None and 0 < number < 1000
        self.assertGreater(many, 20)

    def test_bounds(self):
        town = Town([(60, 300, LAST)], [(Host([A, B]), 0)])
        plan = Plan(Zone({XB: 1}), [("put", XA, 1), ("take", XB)])
        demands = [honest(plan, town, 0, X)]
        for wait, lost in [(1, 1), (2, 2), (999, 999), (1000, 1000), (1001, 1000), (5000, 1000)]:
            self.check(town, plan, demands, [0, wait], [(1000 if wait >= 300 else None, lost)])
        self.check(town, plan, [(0, 0, X, [])], [0, 1], [(None, None)])
        self.check(town, plan, [(2, 0, X, [(XA, 1)])], [0, 5000], [(1000, 1000)])
        self.check(town, plan, [(1, 0, X, [(XA, 1)])], [0, 5000], [(None, 0)])
        fresh = Town([(60, 0, LAST)], [(Host([B, A]), 0)])
        self.check(fresh, plan, [(2, 0, X, [(XA, 1)])], [0, 5000], [(0, None)])
        self.check(fresh, plan, [(2, 0, X, [(XB, 1)])], [0, 5000], [(None, None)])
        self.check(town, plan, [], [0, 1], [(1000, 1000)])

    def test_keepers_on_some_roads(self):
        """The first keeper is on the road of one house, the second one of two, the third one of one, the last one of none."""
        town = Town([(5, 10, {(): 1, A: 2}), (7, 20, LAST), (9, 30, LAST), (1, 1, LAST)], [(Host([A, B]), 0), (Host([A, B]), 1)])
        plan = Plan(Zone({XB: 1}), [("put", XA, 1), ("take", XB)])
        both = [honest(plan, town, house, X) for house in (0, 1)]
        self.assertEqual([least_times(town, plan, both[:1]), least_times(town, plan, both[1:]), least_times(town, plan, both)],
                         [[0, 40], [0, 20], [0, 40]])
        self.check(town, plan, both[:1], [0, 60], [(1000, 30), (1000, 1000), (1000, 50), (1000, 1000)])
        self.check(town, plan, both[1:], [0, 60], [(1000, 1000), (1000, 60), (1000, 1000), (1000, 1000)])
        self.check(town, plan, both, [0, 60], [(1000, 30), (1000, 60), (1000, 50), (1000, 1000)])
        self.check(town, plan, both, [0, 35], [(None, 5), (None, None), (None, 25), (None, None)])

    def test_no_changes(self):
        town = Town([(5, 10, LAST)], [(Host([A]), 0)])
        for changes, times in [([], []), ([STAY], [0]), ([STAY], [-7])]:
            plan = Plan(Zone({XA: 1}), changes)
            self.check(town, plan, [(0, 0, X, [(XA, 1)])], times, [(1000, 1000)])
            self.check(town, plan, [(0, 0, X, [None])], times, [(None, None)])

    def test_results_are_new(self):
        town = Town([(5, 10, LAST)], [(Host([A]), 0)])
        plan, demands, times = Plan(Zone({XA: 1}), [STAY]), [(0, 0, X, [(XA, 1)])], [0]
        greatest_keeps(town, plan, demands, times).clear()
        self.check(town, plan, demands, times, [(1000, 1000)])
        self.assertEqual([town.keepers(), demands, times], [[(5, 10, LAST)], [(0, 0, X, [(XA, 1)])], [0]])
