"""What a house can be told, [80] with [9], [70] and [71]."""

import unittest
from itertools import combinations
from random import Random

from listnames.errors import NoHouse
from listnames.histories import History
from listnames.hosts import Host
from listnames.towns import Town
from listnames.windows import settled, told, window
from listnames.zones import Zone
from things import odd_values, shorts_upto
from townsbyhand import A, AB, B, BA, STAY, Scene, drawn_scene, ordered

FAR = 10 ** 39
AA, BAA = ("a", "a"), ("b", "a", "a")
NAMES = shorts_upto(3, "ab")
SHORTS = shorts_upto(2, "ab")
LAST = {(): None}


def one_keeper(found, lost, *hosts):
    return Town([(found, lost, LAST)], [(host, 0) for host in hosts])


def window_by_hand(scene, house, name, moment):
    """The window, from the states at single moments."""
    found = []
    for at, state, value in scene.seen(house, name, moment):
        if found and found[-1][:2] == [state, value] and found[-1][3] == at - 1:
            found[-1][3] = at
        else:
            found.append([state, value, at, at])
    return [tuple(row) for row in found]


class TestWindow(unittest.TestCase):

    def test_drawn(self):
        random = Random(80)
        several = 0
        for _ in range(300):
            scene = drawn_scene(random, 12)
            for moment in [scene.drawn_moment(random) for _ in range(12)]:
                house, name = random.randrange(len(scene.houses)), random.choice(NAMES[:10])
                expected = window_by_hand(scene, house, name, moment)
                self.assertEqual(window(scene.town, house, scene.history, name, moment), expected)
                several += len(expected) > 1
        self.assertGreater(several, 150)

    def test_around_a_change(self):
        town = one_keeper(5, 3, Host([A]))
        history = History(Zone({A: 1}), [(10, ("take", A)), (20, ("put", A, 2))])
        for moment, expected in [
                (9, [("found", 1, 4, 9)]),
                (10, [("found", 1, 5, 9), ("lost", None, 10, 10)]),
                (13, [("found", 1, 8, 9), ("lost", None, 10, 13)]),
                (14, [("found", 1, 9, 9), ("lost", None, 11, 14)]),
                (15, [("lost", None, 12, 15)]),
                (19, [("lost", None, 16, 19)]),
                (20, [("lost", None, 17, 19), ("found", 2, 20, 20)]),
                (22, [("lost", None, 19, 19), ("found", 2, 20, 22)]),
                (23, [("found", 2, 20, 23)]),
                (25, [("found", 2, 20, 25)]),
                (26, [("found", 2, 21, 26)]),
                (FAR, [("found", 2, FAR - 5, FAR)]),
                (-FAR, [("found", 1, -FAR - 5, -FAR)])]:
            self.assertEqual(window(town, 0, history, A, moment), expected)
            self.assertEqual(window(town, 0, history, ("z",), moment), [("lost", None, moment - 3, moment)])

    def test_ages_of_nothing(self):
        history = History(Zone({BA: 1}), [(0, ("put", A, 1)), (1, ("take", BA)), (2, ("take", A))])
        town = one_keeper(0, 0, Host([A]))
        self.assertEqual([window(town, 0, history, A, moment) for moment in range(-1, 3)],
                         [[("empty", None, -1, -1)], [("found", 1, 0, 0)], [("found", 1, 1, 1)], [("lost", None, 2, 2)]])
        town = one_keeper(0, 4, Host([A]))
        self.assertEqual(window(town, 0, history, A, 2), [("empty", None, -2, -1), ("lost", None, 2, 2)])
        town = one_keeper(4, 0, Host([A]))
        self.assertEqual(window(town, 0, history, A, 2), [("found", 1, 0, 1), ("lost", None, 2, 2)])
        self.assertEqual(window(town, 0, history, BA, 4), [("found", 1, 0, 0), ("lost", None, 4, 4)])

    def test_kinds_of_changes(self):
        changes = [(0, STAY), (2, ("put", A, 1)), (3, ("put", A, 1)), (5, ("put", A, 2)), (6, ("put", A, 1)), (7, ("put", BA, 3)),
                   (8, ("take", A)), (9, STAY), (10, ("take", BA)), (11, ("put", BA, 3))]
        town = one_keeper(100, 100, Host([A]))
        history = History(Zone({}), changes)
        self.assertEqual(window(town, 0, history, A, 12), [
            ("lost", None, -88, 1), ("found", 1, 2, 4), ("found", 2, 5, 5), ("found", 1, 6, 7), ("empty", None, 8, 9),
            ("lost", None, 10, 10), ("empty", None, 11, 12)])
        self.assertEqual(window(town, 0, history, A, 5), [("lost", None, -95, 1), ("found", 1, 2, 4), ("found", 2, 5, 5)])

    def test_ages_are_those_of_the_road(self):
        town = Town([(1, 2, {(): 1, A: None}), (10, 20, LAST)], [(Host([A]), 0), (Host([A]), 1)])
        history = History(Zone({A: 1, B: 1}), [])
        self.assertEqual(window(town, 0, history, A, 0), [("found", 1, -1, 0)])
        self.assertEqual(window(town, 1, history, A, 0), [("found", 1, -10, 0)])
        self.assertEqual(window(town, 0, history, B, 0), [("found", 1, -11, 0)])
        self.assertEqual(window(town, 0, history, ("c",), 0), [("lost", None, -22, 0)])


class TestTold(unittest.TestCase):

    def test_drawn(self):
        random = Random(800)
        several = 0
        for _ in range(400):
            scene = drawn_scene(random, 12)
            for moment in [scene.drawn_moment(random) for _ in range(8)]:
                house, short = random.randrange(len(scene.houses)), random.choice(SHORTS[:3])
                expected = scene.told(house, short, moment)
                self.assertEqual(told(scene.town, house, scene.history, short, moment), expected)
                several += len(expected) > 1
        self.assertGreater(several, 200)

    def test_around_a_change(self):
        town = one_keeper(5, 3, Host([A]))
        history = History(Zone({("x", "a"): 1}), [(10, ("take", ("x", "a"))), (20, ("put", ("x", "a"), 2))])
        old, new = (("x", "a"), 1), (("x", "a"), 2)
        for moment, expected in [(-FAR, [old]), (9, [old]), (10, [old, None]), (14, [old, None]), (15, [None]), (19, [None]),
                                 (20, [new, None]), (22, [new, None]), (23, [new]), (FAR, [new])]:
            self.assertEqual(told(town, 0, history, ("x",), moment), expected)

    def test_states_of_one_window(self):
        """The first candidate is found, empty and lost in one window, and the second one is found."""
        changes = [(0, ("put", ("x", "a"), 1)), (1, ("put", ("y", "x", "a"), 1)), (2, ("take", ("x", "a"))),
                   (3, ("take", ("y", "x", "a")))]
        history = History(Zone({("x", "b"): 9}), changes)
        town = one_keeper(50, 50, Host([A, B]), Host([A, B], stops=True), Host([B, A], stops=True), Host([A]))
        first, second = (("x", "a"), 1), (("x", "b"), 9)
        for moment in range(3, 20):
            self.assertEqual(told(town, 0, history, ("x",), moment), [first, second])
            self.assertEqual(told(town, 1, history, ("x",), moment), [first, second, None])
            self.assertEqual(told(town, 2, history, ("x",), moment), [second])
            self.assertEqual(told(town, 3, history, ("x",), moment), [first, None])

    def test_a_host_that_stops_at_an_empty_name(self):
        history = History(Zone({("y", "x", "a"): 1, ("x", "b"): 2}), [(0, ("take", ("y", "x", "a")))])
        town = one_keeper(9, 2, Host([A, B]), Host([A, B], stops=True))
        second = (("x", "b"), 2)
        for moment, stopping in [(-1, [None]), (0, [second, None]), (1, [second, None]), (2, [second])]:
            self.assertEqual(told(town, 0, history, ("x",), moment), [second])
            self.assertEqual(told(town, 1, history, ("x",), moment), stopping)

    def test_candidates_are_free_of_one_another(self):
        """The two names are never there at once, and never gone at once: both are told anyway."""
        history = History(Zone({("x", "a"): 1}), [(0, ("put", ("x", "b"), 2)), (1, ("take", ("x", "a")))])
        town = one_keeper(9, 9, Host([A, B]))
        self.assertEqual(told(town, 0, history, ("x",), 0), [(("x", "a"), 1)])
        self.assertEqual(told(town, 0, history, ("x",), 1), [(("x", "a"), 1), (("x", "b"), 2), None])

    def test_order(self):
        changes = [(at, ("put", ("x", "b"), value)) for at, value in enumerate([7, 3, 9, 3, 10])]
        history = History(Zone({("x", "b"): 8}), changes + [(5, ("take", ("x", "b"))), (6, ("put", ("x", "a"), 5))])
        answers = [(("x", "b"), value) for value in (3, 7, 8, 9, 10)]
        self.assertEqual(told(one_keeper(50, 50, Host([B, A])), 0, history, ("x",), 6), [(("x", "a"), 5), *answers, None])

    def test_dots(self):
        history = History(Zone({("x",): 1, ("x", "a"): 2, ("x", "x"): 3}), [])
        town = one_keeper(5, 5, Host([A], dots=0), Host([A], dots=1), Host([], dots=2), Host([]))
        self.assertEqual([told(town, house, history, ("x",), 0) for house in range(4)],
                         [[(("x",), 1)], [(("x", "a"), 2)], [(("x",), 1)], [None]])
        self.assertEqual([told(town, house, history, ("x", "x"), 0) for house in range(4)],
                         [[(("x", "x"), 3)], [(("x", "x"), 3)], [(("x", "x"), 3)], [None]])


class TestSettled(unittest.TestCase):

    def test_drawn(self):
        random = Random(801)
        late = 0
        for _ in range(90):
            scene = drawn_scene(random, 8)
            house, short = random.randrange(len(scene.houses)), random.choice(SHORTS[:2])
            found = settled(scene.town, house, scene.history, short)
            if not scene.changes:
                self.assertIs(found, None)
                continue
            last, moment = scene.changes[-1][0], scene.span()[1]
            while moment >= last and len(scene.told(house, short, moment)) == 1:
                moment -= 1
            self.assertEqual(found, moment + 1)
            late += found > last
        self.assertGreater(late, 15)

    def test_one_moment_earlier(self):
        town = Town([(5, 3, {(): 1}), (2, 1, LAST)], [(Host([A]), 0)])
        for zone, change, age in [({("x", "a"): 1}, ("take", ("x", "a")), 7), ({}, ("put", ("x", "a"), 1), 4),
                                  ({("x", "a"): 1}, ("put", ("x", "a"), 2), 7), ({("x", "a"): 1}, ("put", ("x", "a"), 1), 0),
                                  ({}, STAY, 0), ({}, ("put", ("y", "x", "a"), 1), 0)]:
            history = History(Zone(zone), [(100, change)])
            moment = settled(town, 0, history, ("x",))
            self.assertEqual(moment, 100 + age)
            self.assertEqual(len(told(town, 0, history, ("x",), moment)), 1)
            self.assertEqual(len(told(town, 0, history, ("x",), moment - 1)), 2 if age else 1)

    def test_ahead_of_the_last_change(self):
        """All was told long ago when the last change comes."""
        history = History(Zone({}), [(0, ("put", ("x", "a"), 1)), (50, STAY)])
        self.assertEqual(settled(one_keeper(9, 9, Host([A])), 0, history, ("x",)), 50)
        self.assertEqual(settled(one_keeper(9, 50, Host([A])), 0, history, ("x",)), 50)
        self.assertEqual(settled(one_keeper(9, 51, Host([A])), 0, history, ("x",)), 51)

    def test_no_changes(self):
        self.assertIs(settled(one_keeper(9, 9, Host([A])), 0, History(Zone({A: 1}), []), B), None)

    def test_far_moments(self):
        for moment in (-1000000, 1000000):
            history = History(Zone({}), [(moment, ("put", BA, 1))])
            self.assertEqual(settled(one_keeper(0, 1000, Host([A])), 0, history, B), moment + 1000)


class TestAll(unittest.TestCase):

    def test_no_house(self):
        history = History(Zone({}), [(0, STAY)])
        for many in (1, 3):
            town = one_keeper(1, 2, *[Host([A])] * many)
            for thing in odd_values() + [many, many + 1, "0", (0,), [0]]:
                for call in (lambda house: window(town, house, history, A, 0), lambda house: told(town, house, history, A, 0),
                             lambda house: settled(town, house, history, A),
                             lambda house: settled(town, house, History(Zone({}), []), A)):
                    with self.assertRaises(NoHouse) as caught:
                        call(thing)
                    self.assertIs(type(caught.exception), NoHouse)
                    self.assertIs(caught.exception.house, thing)

    def test_nothing_changes(self):
        random = Random(802)
        for _ in range(20):
            scene = drawn_scene(random, 6)
            short, kept = random.choice(SHORTS), Scene(scene.values, scene.changes, scene.keepers, scene.houses)
            for moment in range(-10, 20):
                for call in (window, told):
                    found = call(scene.town, 0, scene.history, short, moment)
                    copy = list(found)
                    found.clear()
                    self.assertEqual(call(scene.town, 0, scene.history, short, moment), copy)
            self.assertEqual(settled(scene.town, 0, scene.history, short), settled(scene.town, 0, scene.history, short))
            self.assertTrue(scene.town == kept.town and scene.history == kept.history)


class TestAskings(unittest.TestCase):
    """[9]: what askings of keepers bring about is just what can be told."""

    def answers(self, scene, house, short, moment, askings, many):
        """What a house is told behind any so many of the askings, or fewer."""
        found = []
        for size in range(many + 1):
            for some in combinations(askings, size):
                found.append(scene.played(house, some, short, moment))
        return ordered(found)

    def test_all_small_askings(self):
        random = Random(81)
        hosts = [Host([A, B]), Host([A, B], stops=True), Host([B], dots=0), Host([A], dots=1, stops=True)]
        several = 0
        for _ in range(60):
            values = {name: 1 for name in random.sample([AB, AB, AA, AA, A, BAA], 3)}
            changes = [(1, ("put", random.choice([AB, AB, AA, AA, A, BAA]), 2)), (3, ("take", random.choice(sorted(values))))]
            keepers = [(random.randint(0, 3), random.randint(0, 3), LAST)]
            scene = Scene(values, changes, keepers, [(random.choice(hosts), 0)])
            names = scene.houses[0][0].candidates(A)
            askings = [(moment, 0, name) for moment in range(4) for name in names]
            expected = self.answers(scene, 0, A, 3, askings, 2)
            self.assertEqual(told(scene.town, 0, scene.history, A, 3), expected)
            several += len(expected) > 1
        self.assertGreater(several, 20)

    def test_all_small_askings_of_keepers_in_a_row(self):
        random = Random(82)
        several = 0
        for _ in range(40):
            keepers = [(random.randint(0, 2), random.randint(0, 2), {(): 1}), (random.randint(0, 2), random.randint(0, 2), LAST)]
            changes = [(0, ("put", BA, 2)), (2, random.choice([("take", BA), ("put", BA, 3), STAY]))]
            scene = Scene({} if random.random() < 0.5 else {BA: 1}, changes, keepers, [(Host([A]), 0)])
            askings = [(moment, keeper, BA) for moment in range(-2, 4) for keeper in (0, 1)]
            expected = self.answers(scene, 0, B, 3, askings, 2)
            self.assertEqual(told(scene.town, 0, scene.history, B, 3), expected)
            several += len(expected) > 1
        self.assertGreater(several, 15)

    def test_drawn_askings_tell_nothing_else(self):
        random = Random(83)
        old = 0
        for _ in range(400):
            scene = drawn_scene(random, 8)
            for _ in range(8):
                house, short, moment = random.randrange(len(scene.houses)), random.choice(SHORTS[:3]), scene.drawn_moment(random)
                names = scene.houses[house][0].candidates(short) + [A]
                askings = sorted((random.randint(moment - 9, moment), random.randrange(len(scene.keepers)), random.choice(names))
                                 for _ in range(random.randint(0, 12)))
                answer = scene.played(house, askings, short, moment)
                self.assertIn(answer, told(scene.town, house, scene.history, short, moment))
                old += answer != scene.answer(house, short, moment)
        self.assertGreater(old, 40)
