"""What is strange and what is stale, [82] with [80]."""

import unittest
from random import Random

from listnames.errors import NoHouse
from listnames.histories import History
from listnames.hosts import Host
from listnames.strange import stale, strange, strange_short
from listnames.towns import Town
from listnames.windows import told
from listnames.zones import Zone
from things import odd_values, shorts_upto
from townsbyhand import A, AB, B, BA, STAY, Scene, close_scene, drawn_scene

C, X, XA, XB, XC = ("c",), ("x",), ("x", "a"), ("x", "b"), ("x", "c")
YXA, YXB = ("y", "x", "a"), ("y", "x", "b")
LAST = {(): None}
SHORTS = shorts_upto(3, "ab")


def one_keeper(found, lost, *hosts):
    return Town([(found, lost, LAST)], [(host, 0) for host in hosts])


def strange_by_hand(scene, house, short):
    """Moment by moment, from one ahead of the first change to one behind all ages."""
    first, last = scene.span()
    given = []
    for moment in range(first, last + 1):
        given.append(scene.answer(house, short, moment))
        odd = [answer for answer in scene.told(house, short, moment) if answer not in given]
        if odd:
            return (moment, odd[0])
    return None


def stale_by_hand(scene, house, short):
    first, last = scene.span()
    found = []
    for moment in range(first, last + 1):
        if scene.told(house, short, moment) == [scene.answer(house, short, moment)]:
            continue
        if found and found[-1][1] == moment - 1:
            found[-1][1] = moment
        else:
            found.append([moment, moment])
    return [tuple(row) for row in found]


class TestStrange(unittest.TestCase):

    def test_drawn(self):
        random = Random(82)
        nothing = something = never = 0
        for _ in range(900):
            scene = close_scene(random, random.randint(2, 7)) if random.random() < 0.9 else drawn_scene(random, 7)
            for house in range(len(scene.houses)):
                short = random.choice([A, A, A, B])
                expected = strange_by_hand(scene, house, short)
                self.assertEqual(strange(scene.town, house, scene.history, short), expected)
                nothing += expected is not None and expected[1] is None
                something += expected is not None and expected[1] is not None
                never += expected is None
        self.assertTrue(nothing > 10 and something > 30 and never > 500, (nothing, something, never))

    def test_at_a_change(self):
        """The second name goes while it is still told that the first one is not there."""
        history = History(Zone({XB: 1}), [(10, ("put", XA, 2)), (12, ("take", XB))])
        for hosts in ([A, B], [B, A]):
            for lost, expected in [(0, None), (2, None), (3, (12, None)), (5, (12, None)), (1000, (12, None))]:
                self.assertEqual(strange(one_keeper(0, lost, Host(hosts)), 0, history, X), expected)
                self.assertEqual(strange(one_keeper(1000, lost, Host(hosts)), 0, history, X), expected)

    def test_what_was_given_ahead_is_not_strange(self):
        """All that is told was the zone's answer once, be it long ago."""
        history = History(Zone({XA: 1}), [(0, ("take", XA)), (5, ("put", XA, 2)), (6, ("put", XB, 3)), (7, ("take", XA))])
        for found, lost in [(0, 0), (9, 0), (0, 9), (9, 9), (1000, 1000)]:
            self.assertIs(strange(one_keeper(found, lost, Host([A])), 0, history, X), None)
        history = History(Zone({XB: 5}), [(0, ("put", XA, 1)), (3, STAY)])
        for found, lost in [(0, 0), (9, 0), (0, 9), (9, 9), (1000, 1000)]:
            self.assertIs(strange(one_keeper(found, lost, Host([A, B])), 0, history, X), None)

    def test_what_the_zone_gives_later_is_strange_up_to_then(self):
        history = History(Zone({}), [(0, ("put", XA, 1)), (2, ("put", XB, 5)), (3, ("take", XA))])
        for lost, expected in [(2, None), (3, (2, (XB, 5))), (9, (2, (XB, 5)))]:
            self.assertEqual(strange(one_keeper(0, lost, Host([A, B])), 0, history, X), expected)
        history = History(Zone({}), [(0, ("put", XA, 1)), (2, ("take", XA)), (2 + 3, ("put", XB, 5))])
        self.assertIs(strange(one_keeper(9, 9, Host([A, B])), 0, history, X), None)

    def test_behind_an_age_nothing_becomes_strange(self):
        """What is told is least just ahead of a change: so a strange answer comes at one, whatever the ages are."""
        random = Random(822)
        for _ in range(100):
            scene = close_scene(random, 4)
            expected = strange_by_hand(scene, 0, A)
            self.assertTrue(expected is None or expected[0] in [moment for moment, _ in scene.changes])

    def test_the_first_of_several(self):
        """Two other values of the second name, which the zone had while the first one was there, and None."""
        changes = [(0, ("put", XB, 7)), (1, ("put", XB, 4)), (2, ("put", XB, 9)), (3, ("take", XB)), (4, ("take", XA)),
                   (5, ("put", XB, 1))]
        history = History(Zone({XA: 1}), changes)
        self.assertEqual(told(one_keeper(3, 0, Host([A, B])), 0, history, X, 4),
                         [(XA, 1), (XB, 4), (XB, 9), None])
        self.assertEqual(strange(one_keeper(3, 0, Host([A, B])), 0, history, X), (4, (XB, 4)))
        self.assertEqual(strange(one_keeper(2, 0, Host([A, B])), 0, history, X), (4, (XB, 9)))
        self.assertIs(strange(one_keeper(1, 0, Host([A, B])), 0, history, X), None)
        self.assertEqual(strange(one_keeper(4, 0, Host([A, B])), 0, history, X), (4, (XB, 4)))
        self.assertEqual(strange(one_keeper(1000, 0, Host([A, B])), 0, history, X), (4, (XB, 4)))

    def test_a_host_that_stops(self):
        """Both names ahead of the third one were empty in turn, and both are told to be lost."""
        history = History(Zone({YXA: 1, XC: 3}), [(0, ("put", YXB, 2)), (1, ("take", YXA))])
        for lost, expected in [(1, None), (2, (1, (XC, 3))), (9, (1, (XC, 3)))]:
            self.assertEqual(strange(one_keeper(0, lost, Host([A, B, C], stops=True)), 0, history, X), expected)
            self.assertIs(strange(one_keeper(0, lost, Host([A, B, C])), 0, history, X), None)

    def test_never(self):
        town = one_keeper(1000, 1000, Host([A, B]), Host([]))
        for history in (History(Zone({XA: 1}), []), History(Zone({}), [(0, STAY)]), History(Zone({}), [(0, ("put", ("z", "z"), 1))])):
            for house in (0, 1):
                self.assertIs(strange(town, house, history, X), None)
                self.assertIs(strange_short(town, house, history), None)


class TestStrangeShort(unittest.TestCase):

    def by_hand(self, scene, house):
        """All short names of at most three labels, the candidates of which come near the changed names or not."""
        for short in shorts_upto(3, "ab") + [("z",), ("z", "a")]:
            if strange(scene.town, house, scene.history, short) is not None:
                return short
        return None

    def test_drawn(self):
        random = Random(820)
        some = 0
        for _ in range(300):
            scene = close_scene(random, random.randint(2, 9)) if random.random() < 0.5 else drawn_scene(random, 9)
            house = random.randrange(len(scene.houses))
            expected = self.by_hand(scene, house)
            self.assertEqual(strange_short(scene.town, house, scene.history), expected)
            some += expected is not None
        self.assertGreater(some, 20)

    def test_the_least_one(self):
        """Three short names are strange: the one with the fewest labels comes first, then the order of Python."""
        def moved(*names):
            return [step for name in names for step in (("put", (*name, "a"), 2), ("take", (*name, "b")))]
        names = [("c", "c"), ("z",), ("y",)]
        zone = Zone({(*name, "b"): 1 for name in names})
        town = one_keeper(0, 1000, Host([A, B]))
        for many, expected in [(1, ("c", "c")), (2, ("z",)), (3, ("y",))]:
            self.assertEqual(strange_short(town, 0, History(zone, list(enumerate(moved(*names[:many]))))), expected)

    def test_beneath_a_candidate(self):
        """No candidate of ("x",) is changed, but names beneath two of them are."""
        for ahead in [("y",), ("y", "z"), ("y",) * 6]:
            above, below = (*ahead, *XA), (*ahead, *XB)
            history = History(Zone({above: 1, XC: 3}), [(0, ("put", below, 2)), (1, ("take", above))])
            self.assertEqual(strange_short(one_keeper(0, 2, Host([A, B, C], stops=True)), 0, history), X)
            self.assertIs(strange_short(one_keeper(0, 1, Host([A, B, C], stops=True)), 0, history), None)
            self.assertEqual(strange_short(one_keeper(0, 2, Host([A, B, C])), 0, history), (*ahead, "x"))

    def test_the_names_themselves(self):
        history = History(Zone({X: 1}), [(0, ("put", XA, 1)), (1, ("take", X))])
        self.assertEqual(strange_short(one_keeper(0, 2, Host([A], dots=0)), 0, history), X)
        self.assertIs(strange_short(one_keeper(0, 1, Host([A], dots=0)), 0, history), None)
        self.assertIs(strange_short(one_keeper(0, 2, Host([A])), 0, history), None)


class TestStale(unittest.TestCase):

    def test_drawn(self):
        random = Random(821)
        several = 0
        for _ in range(160):
            scene = close_scene(random, random.randint(1, 8)) if random.random() < 0.5 else drawn_scene(random, 8)
            for short in SHORTS[:2]:
                house = random.randrange(len(scene.houses))
                expected = stale_by_hand(scene, house, short)
                self.assertEqual(stale(scene.town, house, scene.history, short), expected)
                several += len(expected) > 1
        self.assertGreater(several, 15)

    def test_stretches_end_at_an_age(self):
        history = History(Zone({XA: 1}), [(10, ("take", XA)), (30, ("put", XA, 2))])
        for found, lost, expected in [(0, 0, []), (5, 0, [(10, 14)]), (0, 4, [(30, 33)]), (5, 4, [(10, 14), (30, 33)]),
                                      (20, 4, [(10, 33)]), (19, 1, [(10, 28), (30, 30)]), (21, 0, [(10, 30)]),
                                      (20, 0, [(10, 29)]), (50, 0, [(10, 59)]), (1000, 1000, [(10, 1029)])]:
            self.assertEqual(stale(one_keeper(found, lost, Host([A])), 0, history, X), expected)

    def test_what_is_told_may_be_the_zones_answer(self):
        """The state of a candidate changes, but no answer does."""
        history = History(Zone({XA: 1}), [(0, ("put", XB, 2)), (5, ("put", XA, 1)), (9, ("take", XB)), (12, STAY)])
        self.assertEqual(stale(one_keeper(9, 9, Host([A, B])), 0, history, X), [])
        self.assertEqual(stale(one_keeper(9, 9, Host([B, A])), 0, history, X), [(0, 17)])

    def test_no_changes(self):
        for history in (History(Zone({XA: 1}), []), History(Zone({}), [(0, STAY), (1, STAY)])):
            self.assertEqual(stale(one_keeper(1000, 1000, Host([A, B])), 0, history, X), [])

    def test_forty_changes(self):
        changes = [(10 * at, ("put", XA, 1) if at % 2 == 0 else ("take", XA)) for at in range(40)]
        scene = Scene({}, changes, [(4, 7, LAST)], [(Host([A]), 0)])
        expected = [(10 * at, 10 * at + (6 if at % 2 == 0 else 3)) for at in range(40)]
        self.assertEqual(stale_by_hand(scene, 0, X), expected)
        self.assertEqual(stale(scene.town, 0, scene.history, X), expected)
        scene = Scene({}, changes, [(10, 9, LAST)], [(Host([A]), 0)])
        self.assertEqual(stale(scene.town, 0, scene.history, X), stale_by_hand(scene, 0, X))
        self.assertEqual(stale(Town([(1000, 1000, LAST)], scene.houses), 0, scene.history, X), [(0, 1389)])
        self.assertIs(strange(scene.town, 0, scene.history, X), None)

    def test_far_moments(self):
        for moment in (-1000000, 1000000 - 1):
            history = History(Zone({}), [(moment, ("put", XA, 1)), (moment + 1, ("take", XA))])
            town = Town([(1000, 0, {(): 1}), (1000, 0, LAST)], [(Host([A]), 0)])
            self.assertEqual(stale(town, 0, history, X), [(moment + 1, moment + 2000)])

    def test_results_are_new(self):
        history = History(Zone({XA: 1}), [(10, ("take", XA))])
        town = one_keeper(5, 5, Host([A]))
        stale(town, 0, history, X).clear()
        self.assertEqual(stale(town, 0, history, X), [(10, 14)])


class TestHouses(unittest.TestCase):

    def test_no_house(self):
        for many in (1, 3):
            town = one_keeper(1, 2, *[Host([A])] * many)
            for history in (History(Zone({}), []), History(Zone({}), [(0, ("put", AB, 1)), (1, ("take", AB))])):
                for thing in odd_values() + [many, many + 1, "0", (0,), [0]]:
                    for call in (lambda house: strange(town, house, history, A), lambda house: stale(town, house, history, A),
                                 lambda house: strange_short(town, house, history)):
                        with self.assertRaises(NoHouse) as caught:
                            call(thing)
                        self.assertIs(type(caught.exception), NoHouse)
                        self.assertIs(caught.exception.house, thing)

    def test_each_house_by_its_own_host_and_keeper(self):
        town = Town([(0, 9, {(): 1}), (0, 2, LAST)], [(Host([A, B]), 0), (Host([A, B]), 1), (Host([B, A]), 0)])
        history = History(Zone({BA: 1}), [(0, STAY), (10, ("put", ("b", "b"), 2)), (13, ("take", BA))])
        self.assertEqual([strange(town, house, history, B) for house in range(3)], [(13, None), None, (13, None)])
        self.assertEqual([stale(town, house, history, B) for house in range(3)], [[(13, 20)], [], [(10, 20)]])
        self.assertEqual([strange_short(town, house, history) for house in range(3)], [B, None, B])
