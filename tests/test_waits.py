"""Least times and what waits are for, [91] with [11] and [90]."""

import unittest
from itertools import product
from random import Random

from listnames.errors import Hopeless
from listnames.hosts import Host
from listnames.plans import Plan, honest
from listnames.scripts import askings_for
from listnames.towns import Town
from listnames.waits import harm, is_waits_paper, keeps, least_times, waits_paper
from listnames.windows import told
from listnames.zones import Zone
from things import odd_values, spoilt
from townsbyhand import A, AB, B, BA, CLOSE, STAY, Scene, drawn_changes

LAST = {(): None}
AA = ("a", "a")
X, XA, XB, XC = ("x",), ("x", "a"), ("x", "b"), ("x", "c")
HOSTS = [Host([A, B]), Host([B, A]), Host([A, B], stops=True), Host([B, A], stops=True), Host([B], dots=0, stops=True)]


def one_keeper(found, lost, *hosts):
    return Town([(found, lost, LAST)], [(host, 0) for host in hosts])


class Case:
    """A town, a plan and demands, as plain lists and as objects."""

    def __init__(self, values, changes, keepers, houses, demands):
        self.values, self.changes, self.keepers, self.houses, self.demands = values, changes, keepers, houses, demands
        self.town, self.plan = Town(keepers, houses), Plan(Zone(values), changes)

    def scene(self, times):
        """The changes that have times, as a history."""
        return Scene(self.values, list(zip(times, self.changes)), self.keepers, self.houses)

    def keeps_by_hand(self, times):
        """Whether the demands are kept at each moment, from ahead of the first change to behind all ages."""
        scene = self.scene(times)
        low, high = scene.span()
        for first, house, short, allowed in self.demands:
            if first > len(times):
                continue
            for moment in range(times[first - 1] if first > 0 else low, high + 1):
                if any(answer not in allowed for answer in scene.told(house, short, moment)):
                    return False
        return True

    def harm_by_hand(self, times):
        """The first number of a change, the first demand, and the first answer, by single moments."""
        scene = self.scene(times)
        for many in range(len(times) + 1):
            moment = scene.span()[0] if many == 0 else times[many - 1]
            for index, (first, house, short, allowed) in enumerate(self.demands):
                odd = [answer for answer in scene.told(house, short, moment) if first <= many and answer not in allowed]
                if odd:
                    return (many, index, odd[0])
        return None

    def rows(self, longest):
        """All rows of times that begin with 0 and wait at most so long at each change."""
        for waits in product(range(1, longest + 1), repeat=max(0, len(self.changes) - 1)):
            times = [0] if self.changes else []
            for wait in waits:
                times.append(times[-1] + wait)
            yield times


def drawn_case(random, many, ages):
    """A plan with demands: honest ones, ones with answers left out, and such that forbid what was long ago."""
    values, changes = drawn_changes(random, many, tuple(CLOSE))
    keepers = [(random.choice(ages), random.choice(ages), {(): 1, B: random.choice([1, None])}),
               (random.choice([0, 1]), random.choice([0, 1]), LAST)]
    houses = [(random.choice(HOSTS), 0), (random.choice(HOSTS), 1)]
    town, plan = Town(keepers, houses), Plan(Zone(values), changes)
    demands = []
    for _ in range(random.randint(0, 3)):
        first, house, short = random.choice([0, 0, 0, 1, 2, many, many + 1]), random.randrange(2), random.choice([A, A, A, B])
        _, _, _, allowed = honest(plan, town, house, short)
        kind = random.choice(["honest", "new", "new", "new", "less", "more"])
        if kind == "new":
            first = random.randint(1, max(1, many))
            behind = [houses[house][0](plan.zone_behind(at), short) for at in range(min(first - 1, many), many + 1)]
            allowed = list(dict.fromkeys(behind + random.choice([[], [None]])))
        elif kind == "less":
            allowed.pop(random.randrange(len(allowed)))
        elif kind == "more":
            allowed += [answer for answer in [None, (AA, 0), (AB, 1)] if answer not in allowed][:1]
        demands.append((first, house, short, allowed))
    return Case(values, changes, keepers, houses, demands)


def waiting_case(random, least, most, ages):
    """A drawn case, mostly one of few in which some change has to wait, and can."""
    for _ in range(100 if random.random() < 0.7 else 1):
        many = random.randint(least, most)
        case = drawn_case(random, many, ages)
        if harm(case.town, case.plan, case.demands, list(range(many))) is None:
            continue
        if harm(case.town, case.plan, case.demands, [10000 * at for at in range(many)]) is None:
            break
    return case


class TestKeeps(unittest.TestCase):

    def test_drawn(self):
        random = Random(910)
        kept = broken = 0
        for _ in range(500):
            case = waiting_case(random, 0, 5, [0, 1, 3, 5])
            times, moment = [], random.choice([0, 0, -7, 1000])
            for _ in case.changes:
                times.append(moment)
                moment += random.choice([1, 2, 3, 7])
            expected = case.keeps_by_hand(times)
            self.assertIs(keeps(case.town, case.plan, case.demands, times), expected)
            self.assertEqual(harm(case.town, case.plan, case.demands, times), case.harm_by_hand(times))
            self.assertIs(case.harm_by_hand(times) is None, expected)
            kept, broken = kept + expected, broken + (not expected)
        self.assertTrue(kept > 100 and broken > 100, (kept, broken))

    def test_no_demands_and_no_changes(self):
        town = one_keeper(9, 9, Host([A]))
        plan = Plan(Zone({}), [("put", BA, 1), ("take", BA)])
        self.assertIs(keeps(town, plan, [], [0, 1]), True)
        self.assertIs(harm(town, plan, [], [0, 1]), None)
        empty = Plan(Zone({BA: 1}), [])
        self.assertIs(keeps(town, empty, [], []), True)
        for demand, expected in [((0, 0, B, [(BA, 1)]), None), ((0, 0, B, [None]), (0, 0, (BA, 1))), ((1, 0, B, [None]), None),
                                 ((0, 0, B, []), (0, 0, (BA, 1))), ((0, 0, A, [None]), None), ((0, 0, A, []), (0, 0, None))]:
            self.assertEqual(harm(town, empty, [demand], []), expected)
            self.assertIs(keeps(town, empty, [demand], []), expected is None)

    def test_the_number_of_each_change(self):
        """The name is told with its old value for five moments."""
        town = one_keeper(5, 0, Host([A]))
        plan = Plan(Zone({BA: 1}), [("put", BA, 2), ("put", BA, 3), STAY])
        for first, times, expected in [
                (0, [0, 5, 9], (0, 0, (BA, 1))), (1, [0, 5, 9], (1, 0, (BA, 1))), (2, [0, 5, 9], (2, 0, (BA, 2))),
                (3, [0, 5, 9], (3, 0, (BA, 2))), (3, [0, 5, 10], None), (4, [0, 1, 2], None), (10, [0, 1, 2], None),
                (2, [0, 4, 5], (2, 0, (BA, 1))), (3, [0, 1, 5], (3, 0, (BA, 2))), (3, [-8, 1, 6], None), (3, [-8, 1, 5], (3, 0, (BA, 2)))]:
            demands = [(first, 0, B, [(BA, 3)])]
            self.assertEqual(harm(town, plan, demands, times), expected)
            self.assertIs(keeps(town, plan, demands, times), expected is None)

    def test_the_first_of_several(self):
        """The least number first, then the least index, then the first answer in the order of what is told."""
        town = one_keeper(50, 50, Host([A]))
        plan = Plan(Zone({BA: 5}), [("put", BA, 2), ("take", BA), ("put", BA, 1)])
        honestly = [(BA, 5), (BA, 2), (BA, 1), None]
        def on(first, *gone):
            return (first, 0, B, [answer for answer in honestly if answer not in gone])
        for demands, expected in [
                ([on(0, None), on(0, (BA, 2))], (1, 1, (BA, 2))), ([on(0, (BA, 2)), on(0, (BA, 5))], (0, 1, (BA, 5))),
                ([on(3, None, (BA, 1), (BA, 5)), on(3)], (3, 0, (BA, 1))), ([on(0), on(2, None), on(2, (BA, 5))], (2, 1, None)),
                ([on(0), on(2, (BA, 5)), on(2, None)], (2, 1, (BA, 5))), ([on(1, (BA, 2), (BA, 5))], (1, 0, (BA, 2))),
                ([on(4, None)] * 8, None), ([on(3, None), on(2, None)], (2, 1, None))]:
            self.assertEqual(harm(town, plan, demands, [0, 1, 2]), expected)

    def test_no_other_numbers_and_times(self):
        """Times of any size, and a demand on a house of its own."""
        town = one_keeper(5, 0, Host([B]), Host([A]))
        plan = Plan(Zone({BA: 1}), [("put", BA, 2), STAY])
        for first in (-1000000, 999990, 10 ** 39, -(10 ** 39)):
            for wait, expected in [(4, (2, 0, (BA, 1))), (5, None)]:
                times = [first, first + wait]
                self.assertEqual(harm(town, plan, [(2, 1, B, [(BA, 2)])], times), expected)
                self.assertIs(keeps(town, plan, [(2, 1, B, [(BA, 2)]), (0, 0, B, [None])], times), expected is None)


class TestLeastTimes(unittest.TestCase):

    def test_against_a_search(self):
        random = Random(11)
        hopeless = waiting = 0
        for _ in range(160):
            case = waiting_case(random, 0, 4, [0, 1, 2, 3])
            rows = [times for times in case.rows(5) if case.keeps_by_hand(times)]
            try:
                found = least_times(case.town, case.plan, case.demands)
            except Hopeless as error:
                self.assertEqual(rows, [])
                far = case.harm_by_hand([10000 * at for at in range(len(case.changes))])
                self.assertEqual((error.many, error.demand, error.answer), far)
                hopeless += 1
                continue
            self.assertIs(harm(case.town, case.plan, case.demands, [10000 * at for at in range(len(case.changes))]), None)
            self.assertIs(case.keeps_by_hand(found), True)
            self.assertEqual(found[:1], [0] if case.changes else [])
            for times in rows:
                self.assertTrue(all(one <= other for one, other in zip(found, times)), (found, times))
            waiting += found != list(range(len(found)))
        self.assertTrue(hopeless > 10 and waiting > 60, (hopeless, waiting))

    def test_greater_ages(self):
        """None of the times can be one moment less, those behind it being as they please."""
        random = Random(110)
        waiting = 0
        for _ in range(150):
            case = waiting_case(random, 2, 8, [0, 7, 200, 1000])
            try:
                found = least_times(case.town, case.plan, case.demands)
            except Hopeless:
                continue
            self.assertIs(harm(case.town, case.plan, case.demands, found), None)
            self.assertEqual(least_times(case.town, case.plan, case.demands), found)
            for at in range(1, len(found)):
                if found[at] > found[at - 1] + 1:
                    times = found[:at] + [found[at] - 1]
                    times += [times[-1] + 10000 * more for more in range(1, len(found) - at)]
                    self.assertEqual(harm(case.town, case.plan, case.demands, times)[0], at + 1)
                    waiting += 1
        self.assertGreater(waiting, 60)

    def test_ages_of_all_sizes(self):
        plan = Plan(Zone({XB: 1}), [("put", XA, 1), ("take", XB)])
        for lost in (0, 1, 2, 3, 300, 999, 1000):
            town = one_keeper(7, lost, Host([A, B]))
            self.assertEqual(least_times(town, plan, [honest(plan, town, 0, X)]), [0, max(1, lost)])
        keepers = [(1000, 1000, {(): at + 1 if at < 5 else None}) for at in range(6)]
        town = Town(keepers, [(Host([A, B]), 0)])
        demand = honest(plan, town, 0, X)
        self.assertEqual(least_times(town, plan, [demand]), [0, 6000])
        longer = Plan(Zone({XB: 1}), [("put", XA, 1), ("take", XB), STAY, ("put", XB, 1), ("take", XA)])
        self.assertEqual(least_times(town, longer, [honest(longer, town, 0, X)]), [0, 6000, 6001, 6002, 12002])

    def test_waits_that_stand_in_each_others_way(self):
        """Each name comes while the other one is told not to be there: what the first change keeps off, the next one needs."""
        town = one_keeper(4, 6, Host([A, B]), Host([B, A]))
        plan = Plan(Zone({XA: 1}), [("put", XB, 1), ("take", XA), ("put", XA, 2), ("take", XB)])
        never = [answer for answer in honest(plan, town, 0, X)[3] if answer is not None]
        self.assertEqual(least_times(town, plan, [(0, 0, X, never)]), [0, 6, 7, 13])
        self.assertEqual(least_times(town, plan, [(0, 1, X, never)]), [0, 6, 7, 13])
        self.assertEqual(least_times(town, plan, [(0, 0, X, never), (4, 0, X, [(XA, 2), (XB, 1)])]), [0, 6, 7, 13])
        self.assertEqual(least_times(town, plan, [(0, 0, X, never), (3, 1, X, [(XA, 2), (XB, 1)])]), [0, 6, 7, 13])
        self.assertEqual(least_times(town, plan, [(0, 0, X, never), (3, 0, X, [(XA, 2), (XB, 1)])]), [0, 6, 10, 16])
        self.assertEqual(least_times(town, plan, [(3, 1, X, [(XA, 2), (XB, 1), None])]), [0, 1, 5, 6])
        self.assertEqual(least_times(town, plan, [(0, 0, X, never + [None])]), [0, 1, 2, 3])

    def test_no_changes(self):
        town = one_keeper(4, 6, Host([A]))
        plan = Plan(Zone({XA: 1}), [])
        for demands in ([], [(0, 0, X, [(XA, 1)])], [(1, 0, X, []), (10, 0, X, [])]):
            self.assertEqual(least_times(town, plan, demands), [])
        self.hopeless(town, plan, [(1, 0, X, []), (0, 0, X, [None])], 0, 1, (XA, 1))
        least_times(town, Plan(Zone({}), [STAY, STAY]), []).append(7)
        self.assertEqual(least_times(town, Plan(Zone({}), [STAY, STAY]), []), [0, 1])

    def hopeless(self, town, plan, demands, many, demand, answer):
        for call in (least_times, waits_paper):
            with self.assertRaises(Hopeless) as caught:
                call(town, plan, demands)
            error = caught.exception
            self.assertIs(type(error), Hopeless)
            self.assertEqual((error.many, error.demand, error.answer), (many, demand, answer))
            self.assertEqual(vars(error), {"many": many, "demand": demand, "answer": answer})
        times = [10000 * at for at in range(len(plan))]
        self.assertEqual(harm(town, plan, demands, times), (many, demand, answer))

    def test_hopeless(self):
        town = one_keeper(4, 6, Host([A, B]))
        plan = Plan(Zone({XA: 1}), [("put", XB, 1), ("take", XA), ("put", XA, 2)])
        fine = (0, 0, X, [(XA, 1), (XB, 1), (XA, 2)])
        self.assertEqual(least_times(town, plan, [fine]), [0, 6, 7])
        for demands, told_of in [
                ([fine, (0, 0, X, [None])], (0, 1, (XA, 1))), ([(1, 0, X, [None])], (1, 0, (XA, 1))),
                ([fine, fine, (2, 0, X, [(XA, 2), (XB, 1)])], (2, 2, (XA, 1))), ([(3, 0, X, [(XA, 2)])], (3, 0, (XB, 1))),
                ([(2, 0, X, [(XA, 1)]), fine], (2, 0, (XB, 1))), ([(3, 0, X, [(XB, 1)]), (3, 0, X, [])], (3, 0, (XA, 2)))]:
            self.hopeless(town, plan, demands, *told_of)
        self.assertEqual(least_times(one_keeper(0, 6, Host([A, B])), plan, [fine, fine, (2, 0, X, [(XA, 2), (XB, 1)])]), [0, 6, 7])
        self.assertEqual(least_times(town, plan, [fine, (4, 0, X, [])]), [0, 6, 7])

    def test_at_once(self):
        """One change ahead of the other: what was just ahead of a change is told, unless the age is nothing."""
        plan = Plan(Zone({}), [("put", XA, 1), ("put", XB, 1)])
        demand = (2, 0, X, [(XA, 1)])
        for lost, expected in [(0, [0, 1]), (1, [0, 1]), (2, [0, 2]), (9, [0, 9])]:
            self.assertEqual(least_times(one_keeper(9, lost, Host([A, B])), plan, [demand]), expected)


class TestPapers(unittest.TestCase):

    def is_right(self, case, times, thing):
        """Whether a thing is a paper of the waits of times, by the words of the document."""
        if times[:1] not in ([], [0]) or not keeps(case.town, case.plan, case.demands, times) or type(thing) is not list:
            return False
        waits = [many for many in range(2, len(times) + 1) if times[many - 1] > times[many - 2] + 1]
        if any(type(part) is not tuple or len(part) != 4 for part in thing):
            return False
        if [part[0] for part in thing] != waits or any(type(part[0]) is not int for part in thing):
            return False
        for many, index, answer, askings in thing:
            if type(index) is not int or not 0 <= index < len(case.demands) or type(askings) is not list:
                return False
            first, house, short, allowed = case.demands[index]
            sooner = times[:many - 1] + [times[many - 1] - 1]
            scene = case.scene(sooner)
            for at, asking in enumerate(askings):
                if type(asking) is not tuple or len(asking) != 3 or type(asking[0]) is not int or type(asking[1]) is not int:
                    return False
                if asking[1] not in range(len(case.keepers)) or not type(asking[2]) is tuple or not asking[2]:
                    return False
                if not all(type(label) is str and label for label in asking[2]) or asking[0] > sooner[-1]:
                    return False
                if at and asking[0] < askings[at - 1][0]:
                    return False
            if first > many or answer in allowed or scene.played(house, askings, short, sooner[-1]) != answer:
                return False
        return True

    def cases(self, seed, many):
        """Drawn cases that are not hopeless, with their least times."""
        random = Random(seed)
        for _ in range(many):
            case = waiting_case(random, 0, 6, [0, 2, 5, 9])
            try:
                yield case, least_times(case.town, case.plan, case.demands)
            except Hopeless:
                pass

    def test_drawn(self):
        several = 0
        for case, times in self.cases(911, 400):
            found = waits_paper(case.town, case.plan, case.demands)
            self.assertTrue(self.is_right(case, times, found), (times, found))
            self.assertIs(is_waits_paper(case.town, case.plan, case.demands, times, found), True)
            several += len(found) > 0
            kept = [(*part[:3], list(part[3])) for part in found]
            for part in found:
                part[3].clear()
            found.clear()
            self.assertEqual(waits_paper(case.town, case.plan, case.demands), kept)
        self.assertGreater(several, 60)

    def test_spoilt_in_one_place(self):
        right = wrong = 0
        for case, times in self.cases(912, 60):
            found = waits_paper(case.town, case.plan, case.demands)
            for thing in spoilt(found):
                expected = self.is_right(case, times, thing)
                self.assertIs(is_waits_paper(case.town, case.plan, case.demands, times, thing), expected, thing)
                right, wrong = right + expected, wrong + (not expected)
        self.assertTrue(right > 3 and wrong > 300, (right, wrong))

    def test_other_demands_answers_and_askings(self):
        """All papers with any demand, any answer that can be told, and askings for it, in the place of what is right."""
        right = wrong = 0
        for case, times in self.cases(913, 150):
            found = waits_paper(case.town, case.plan, case.demands)
            for at, (many, _, _, _) in enumerate(found):
                sooner = times[:many - 1] + [times[many - 1] - 1]
                history = case.plan.history(sooner)
                for index, (first, house, short, allowed) in enumerate(case.demands):
                    for answer in told(case.town, house, history, short, sooner[-1]):
                        askings = askings_for(case.town, house, history, short, sooner[-1], answer)
                        further = [(sooner[-1] - 30, 0, ("z",))] + askings
                        for paper in (askings, further):
                            thing = found[:at] + [(many, index, answer, paper)] + found[at + 1:]
                            expected = first <= many and answer not in allowed and self.is_right(case, times, thing)
                            self.assertIs(is_waits_paper(case.town, case.plan, case.demands, times, thing), expected)
                            right, wrong = right + expected, wrong + (not expected)
        self.assertTrue(right > 30 and wrong > 30, (right, wrong))

    def test_other_times(self):
        town = one_keeper(60, 300, Host([A, B]))
        plan = Plan(Zone({XB: 1}), [("put", XA, 1), ("take", XB)])
        demands = [honest(plan, town, 0, X)]
        paper = waits_paper(town, plan, demands)
        self.assertEqual(paper[0][:3], (2, 0, None))
        askings = paper[0][3]
        late = [(time, 0, XA) for time in (0, 100)]
        for times, thing, expected in [
                ([0, 300], paper, True), ([0, 301], paper, False), ([0, 299], paper, False), ([1, 301], paper, False),
                ([-1, 299], paper, False), ([0, 300], [], False), ([0, 1], [], False), ([0, 400], [], False),
                ([0, 300], [(2, 0, None, [])], False), ([0, 300], [(2, 0, None, late)], False),
                ([0, 300], [(2, 0, None, [(-1, 0, XA)])], True), ([0, 300], [(2, 0, None, [(-2, 0, XA)])], False),
                ([0, 300], [(2, 0, None, [(-1, 0, XA), (298, 0, XB)])], False),
                ([0, 300], [(2, 0, None, [(-1, 0, XA), (299, 0, XB)])], True), ([0, 300], paper * 2, False),
                ([0, 300], [(2, 0, None, [(-5, 0, XB), (-1, 0, XA)])], True), ([0, 300], tuple(paper), False),
                ([0, 300], [(1, 0, None, askings)], False), ([0, 300], [(2, 1, None, askings)], False),
                ([0, 300], [(2, -1, None, askings)], False), ([0, 300], [(2, False, None, askings)], False),
                ([0, 300], [(2, 0, (XA, 1), [])], False), ([0, 300], [(2, 0, (XA, True), [])], False),
                ([0, 300], [[2, 0, None, askings]], False), ([0, 300], [(2, 0, None, tuple(askings))], False),
                ([0, 300], [(2, 0, None)], False), ([0, 300], [(2, 0, None, askings, 0)], False)]:
            self.assertIs(is_waits_paper(town, plan, demands, times, thing), expected, (times, thing))

    def test_a_true_for_a_number(self):
        """True is no index of the second demand, and no value."""
        town = one_keeper(9, 9, Host([A]))
        plan = Plan(Zone({XA: 1}), [("put", XA, 0), ("put", XA, 2)])
        demands = [(0, 0, X, [(XA, 1), (XA, 0), (XA, 2)]), (2, 0, X, [(XA, 0), (XA, 2)])]
        self.assertEqual(least_times(town, plan, demands), [0, 9])
        askings = [(-1, 0, XA)]
        for thing, expected in [([(2, 1, (XA, 1), askings)], True), ([(2, True, (XA, 1), askings)], False),
                                ([(2, 1, (XA, True), askings)], False), ([(2, 0, (XA, 1), askings)], False)]:
            self.assertIs(is_waits_paper(town, plan, demands, [0, 9], thing), expected)

    def test_a_demand_that_comes_later(self):
        """The demand of the third change is not one of the second change, though what it forbids can be told there."""
        town = one_keeper(9, 9, Host([A]))
        plan = Plan(Zone({XA: 1}), [("put", XA, 2), ("put", XA, 3), STAY])
        demands = [(3, 0, X, [(XA, 3)]), (2, 0, X, [(XA, 2), (XA, 3)])]
        self.assertEqual(least_times(town, plan, demands), [0, 9, 18])
        first, second = (2, 1, (XA, 1), [(-1, 0, XA)]), (3, 0, (XA, 2), [(8, 0, XA)])
        for thing, expected in [([first, second], True), ([(2, 0, (XA, 1), [(-1, 0, XA)]), second], False), ([second, first], False),
                                ([first], False), ([second], False), ([first, first, second], False), ([first, first], False)]:
            self.assertIs(is_waits_paper(town, plan, demands, [0, 9, 18], thing), expected)
        self.assertIs(is_waits_paper(town, plan, demands, [0, 9, 17], [first, second]), False)
        self.assertIs(is_waits_paper(town, plan, demands, [0, 10, 19], [first, second]), False)

    def test_nothing_to_wait_for(self):
        town = one_keeper(9, 9, Host([A]))
        for changes, times in [([], []), ([STAY], [0]), ([STAY, STAY], [0, 1])]:
            plan = Plan(Zone({XA: 1}), changes)
            for demands, expected in [([], True), ([(0, 0, X, [(XA, 1)])], True), ([(0, 0, X, [])], False)]:
                self.assertIs(is_waits_paper(town, plan, demands, times, []), expected)
                self.assertIs(is_waits_paper(town, plan, demands, times, [()]), False)
                self.assertIs(is_waits_paper(town, plan, demands, times, ()), False)
            self.assertEqual(waits_paper(town, plan, []), [])
        self.assertIs(is_waits_paper(town, Plan(Zone({}), [STAY]), [], [1], []), False)

    def test_any_value(self):
        town = one_keeper(60, 300, Host([A, B]))
        plan = Plan(Zone({XB: 1}), [("put", XA, 1), ("take", XB)])
        demands = [honest(plan, town, 0, X)]
        askings = waits_paper(town, plan, demands)[0][3]
        for thing in odd_values():
            for paper in [thing, [thing], (thing,), [(thing, 0, None, askings)], [(2, thing, None, askings)], [(2, 0, None, thing)],
                          [(2, 0, None, [thing])], [(2, 0, None, askings + [thing])], [(2, 0, None, [(thing, 0, XA)])],
                          [(2, 0, None, [(-1, thing, XA)])], [(2, 0, None, [(-1, 0, thing)])]]:
                if paper != [(2, 0, None, [(-1, 0, XA)])]:
                    self.assertIs(is_waits_paper(town, plan, demands, [0, 300], paper), False)
            if thing is not None:
                self.assertIs(is_waits_paper(town, plan, demands, [0, 300], [(2, 0, thing, askings)]), False)


class TestArguments(unittest.TestCase):

    def test_nothing_changes(self):
        random = Random(914)
        for _ in range(40):
            case = waiting_case(random, 4, 4, [0, 2, 5])
            demands = [(*demand[:3], list(demand[3])) for demand in case.demands]
            times = [0, 1, 2, 30]
            for call in (keeps, harm):
                self.assertEqual(call(case.town, case.plan, case.demands, times), call(case.town, case.plan, demands, times))
            try:
                self.assertEqual(least_times(case.town, case.plan, case.demands), least_times(case.town, case.plan, demands))
                paper = waits_paper(case.town, case.plan, case.demands)
                copy = [(*part[:3], list(part[3])) for part in paper]
                is_waits_paper(case.town, case.plan, case.demands, times, paper)
                self.assertEqual(paper, copy)
            except Hopeless:
                pass
            self.assertEqual([case.demands, times], [demands, [0, 1, 2, 30]])
            self.assertTrue(case.plan == Plan(Zone(case.values), case.changes))
