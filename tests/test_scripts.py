"""Askings that bring answers about, [81] with [72], [9] and what [2] says of keepers."""

import unittest
from random import Random

from listnames.errors import NoAnswer, NoAsk, NoHouse
from listnames.histories import History
from listnames.hosts import Host
from listnames.nets import Net
from listnames.scripts import askings_for, is_askings_for, played
from listnames.towns import Town
from listnames.windows import told
from listnames.zones import Zone
from things import deep, odd_values, shorts_upto, spoilt
from townsbyhand import A, AB, B, BA, STAY, Scene, drawn_scene

FAR = 10 ** 39
SHORTS = shorts_upto(2, "ab")
LAST = {(): None}
PLAIN = Town([(9, 4, {(): 1}), (5, 2, LAST)], [(Host([A]), 0)])
MOVED = History(Zone({BA: 1}), [(10, ("put", BA, 2)), (20, ("take", BA))])


def drawn_askings(random, scene, names, moment, many):
    """Askings up to a moment, often at the moments of changes, ahead of the first one, and at the moment itself."""
    moments = [at - less for at, _ in scene.changes for less in (0, 1) if moment - 15 < at <= moment]
    moments += [moment, moment - 1, moment - random.randint(0, 9)]
    moments.append(min(moments) - random.randint(1, 5))
    return sorted((random.choice(moments), random.randrange(len(scene.keepers)), random.choice(names)) for _ in range(many))


def net_by_steps(scene, askings, moment):
    """A net with the changes of a scene up to a moment, and with askings."""
    changes = [(at, change) for at, change in scene.changes if at <= moment]
    steps = [(at, 0, change) for at, change in changes] + [(at, 1, ("ask", keeper, name)) for at, keeper, name in askings]
    steps = sorted(steps, key=lambda row: row[:2])
    net = Net(Zone(scene.values), scene.town, moment=min([row[0] for row in steps] + [moment]))
    for at, _, step in steps:
        if at > net.moment():
            net.step(("wait", at - net.moment()))
        net.step(step)
    if moment > net.moment():
        net.step(("wait", moment - net.moment()))
    return net


class TestPlayed(unittest.TestCase):

    def test_as_a_net_does(self):
        random = Random(810)
        old = 0
        for _ in range(2000):
            scene = drawn_scene(random, 8)
            house, short, moment = random.randrange(len(scene.houses)), random.choice(SHORTS[:3]), scene.drawn_moment(random)
            names = scene.houses[house][0].candidates(short) + [A]
            askings = drawn_askings(random, scene, names, moment, random.randint(0, 20))
            expected = net_by_steps(scene, askings, moment).step(("short", house, short))
            for _ in range(2):
                self.assertEqual(played(scene.town, house, scene.history, askings, short, moment), expected)
            self.assertEqual(scene.played(house, askings, short, moment), expected)
            old += expected != scene.answer(house, short, moment)
        self.assertGreater(old, 60)

    def test_moments_of_any_size(self):
        random = Random(811)
        for _ in range(100):
            scene = drawn_scene(random, 3)
            house, short = random.randrange(len(scene.houses)), random.choice(SHORTS[:2])
            names = scene.houses[house][0].candidates(short) + [A]
            for moment in (FAR, 2000000, 1000000 + 5):
                askings = drawn_askings(random, scene, names, moment, 8)
                askings = sorted(askings + [(-FAR, 0, A), (-1000001, 0, names[0])])
                self.assertEqual(played(scene.town, house, scene.history, askings, short, moment),
                                 scene.played(house, askings, short, moment))
            for moment in (-FAR, -1000050):
                askings = sorted((moment - random.randint(0, 9), 0, random.choice(names)) for _ in range(4))
                self.assertEqual(played(scene.town, house, scene.history, askings, short, moment),
                                 scene.played(house, askings, short, moment))

    def test_what_was_asked_first_is_kept(self):
        for askings, moment, answer in [
                ([], 9, (BA, 1)), ([], 10, (BA, 2)), ([], 19, (BA, 2)), ([], 20, None), ([(9, 0, BA)], 18, (BA, 1)),
                ([(9, 0, BA)], 19, (BA, 2)), ([(9, 1, BA)], 14, (BA, 1)), ([(9, 1, BA)], 15, (BA, 2)),
                ([(9, 1, BA), (14, 0, BA)], 19, (BA, 1)), ([(9, 1, BA), (14, 0, BA)], 23, (BA, 1)),
                ([(9, 1, BA), (14, 0, BA)], 24, None), ([(20, 0, BA)], 20, None), ([(9, 0, AB)], 10, (BA, 2)),
                ([(10, 0, BA)], 10, (BA, 2)), ([(-FAR, 0, BA), (-FAR, 0, BA), (9, 1, BA)], 14, (BA, 1)),
                ([(19, 0, BA), (20, 0, BA), (20, 1, BA)], 20, (BA, 2)), ([(19, 0, BA)], FAR, None)]:
            self.assertEqual(played(PLAIN, 0, MOVED, askings, B, moment), answer)

    def refuses(self, at, askings, moment=30):
        with self.assertRaises(NoAsk) as caught:
            played(PLAIN, 0, MOVED, askings, B, moment)
        self.assertIs(type(caught.exception), NoAsk)
        self.assertEqual(caught.exception.at, at)

    def test_no_asking(self):
        bad = [[0, 0, A], (0, 0), (0, 0, A, 0), (0, 0, ()), (0, 0, "a"), (0, 0, ["a"]), (0, 2, A), (0, -1, A), (0, False, A),
               (True, 0, A), (0, "0", A), ("0", 0, A), (None, 0, A), (0, None, A), (0, 0, None), (0, 0, ("a", 1)), (0, FAR, A),
               (0, 0, ("A",)), ()]
        for thing in bad + odd_values():
            self.refuses(0, [thing])
            self.refuses(0, [thing, thing])
            self.refuses(2, [(0, 0, A), (0, 1, A), thing, (-1, 0, A)])
        for thing in odd_values():
            for asking in ([(0, thing, A), (0, 0, thing)] if thing == -1 else [(0, thing, A), (0, 0, thing), (thing, 0, A)]):
                if asking[0] not in (-(10 ** 40 - 1), 10 ** 39):
                    self.refuses(1, [(-5, 0, A), asking])

    def test_moments_that_go_back(self):
        self.refuses(1, [(1, 0, A), (0, 0, A)])
        self.refuses(2, [(0, 0, A), (1, 0, A), (0, 0, A), (-1, 0, A)])
        self.refuses(2, [(0, 0, A), (1, 0, A), (0, 0, A), ()])
        self.refuses(1, [(FAR, 0, A), (FAR - 1, 0, A)], FAR)
        self.assertIs(played(PLAIN, 0, MOVED, [(0, 0, A), (0, 1, A), (0, 0, A), (30, 0, A), (30, 1, B)], B, 30), None)

    def test_moments_behind(self):
        self.refuses(0, [(31, 0, A)])
        self.refuses(1, [(30, 0, A), (31, 0, A), (30, 0, A)])
        self.refuses(0, [(-FAR + 1, 0, A)], -FAR)


class TestAskingsFor(unittest.TestCase):

    def brings(self, scene, house, short, moment, answer):
        askings = askings_for(scene.town, house, scene.history, short, moment, answer)
        self.assertIsInstance(askings, list)
        self.assertEqual(scene.played(house, askings, short, moment), answer)
        self.assertEqual(played(scene.town, house, scene.history, askings, short, moment), answer)
        self.assertIs(is_askings_for(scene.town, house, scene.history, short, moment, answer, askings), True)
        kept = list(askings)
        askings.clear()
        self.assertEqual(askings_for(scene.town, house, scene.history, short, moment, answer), kept)
        return kept

    def test_all_that_can_be_told(self):
        random = Random(812)
        several = 0
        for _ in range(300):
            scene = drawn_scene(random, 12)
            for _ in range(4):
                house, short, moment = random.randrange(len(scene.houses)), random.choice(SHORTS[:3]), scene.drawn_moment(random)
                answers = told(scene.town, house, scene.history, short, moment)
                several += len(answers) > 1
                for answer in answers:
                    self.brings(scene, house, short, moment, answer)
        self.assertGreater(several, 100)

    def test_keepers_in_a_row(self):
        """Each keeper hands on at the last moment at which it still tells what it kept."""
        keepers = [(2, 0, {(): 1}), (0, 0, {(): 2}), (3, 0, {(): 3}), (4, 0, LAST)]
        scene = Scene({BA: 1}, [(0, ("take", BA))], keepers, [(Host([A]), 0)])
        for moment in range(0, 9):
            self.assertEqual(len(self.brings(scene, 0, B, moment, (BA, 1))) > 0, True)
        with self.assertRaises(NoAnswer):
            askings_for(scene.town, 0, scene.history, B, 9, (BA, 1))
        keepers = [(0, 2, {(): 1}), (0, 0, {(): 2}), (0, 3, LAST)]
        scene = Scene({}, [(0, ("put", BA, 1))], keepers, [(Host([A]), 0)])
        for moment in range(0, 5):
            self.brings(scene, 0, B, moment, None)
        with self.assertRaises(NoAnswer):
            askings_for(scene.town, 0, scene.history, B, 5, None)

    def test_tables_that_part(self):
        keepers = [(5, 1, {(): 1, A: 2, BA: None}), (50, 60, LAST), (500, 600, LAST)]
        changes = [(0, ("take", ("x", "b"))), (1, ("take", ("x", "a"))), (2, ("take", BA)), (3, ("put", BA, 7))]
        scene = Scene({("x", "b"): 1, ("x", "a"): 2, BA: 3}, changes, keepers, [(Host([A, B]), 0), (Host([B, A]), 0)])
        for short, moment, many in [(("x",), 54, 3), (("x",), 55, 2), (("x",), 505, 2), (("x",), 506, 1), (B, 3, 3), (B, 4, 2),
                                    (B, 7, 1)]:
            answers = told(scene.town, 0, scene.history, short, moment)
            self.assertEqual(len(answers), many)
            for answer in answers:
                self.brings(scene, 0, short, moment, answer)

    def test_far_moments(self):
        scene = Scene({BA: 1}, [(1000000, ("take", BA))], [(1000, 0, {(): 1}), (1000, 0, LAST)], [(Host([A]), 0)])
        for moment in (FAR, -FAR, 1000000, 1001999):
            for answer in told(scene.town, 0, scene.history, B, moment):
                self.brings(scene, 0, B, moment, answer)

    def test_no_answer(self):
        for thing in odd_values() + [(BA, 3), (AB, 1), (BA, "1"), [BA, 2], (list(BA), 2), (BA,), (BA, 2, 2), ("ba", 2), (BA, True)]:
            with self.assertRaises(NoAnswer) as caught:
                askings_for(PLAIN, 0, MOVED, B, 12, thing)
            self.assertIs(type(caught.exception), NoAnswer)
            self.assertIs(caught.exception.answer, thing)
        self.assertEqual(told(PLAIN, 0, MOVED, B, 12), [(BA, 1), (BA, 2)])
        with self.assertRaises(NoAnswer):
            askings_for(PLAIN, 0, MOVED, B, 9, (BA, 2))
        one = History(Zone({BA: 0}), [(0, ("put", BA, 1))])
        for thing in ((BA, False), (BA, True)):
            with self.assertRaises(NoAnswer):
                askings_for(PLAIN, 0, one, B, 1, thing)


class TestIsAskingsFor(unittest.TestCase):

    def is_right(self, askings, moment, answer):
        """Whether a thing leads to an answer, by the words of the document."""
        if not isinstance(askings, list):
            return False
        try:
            return played(PLAIN, 0, MOVED, askings, B, moment) == answer
        except NoAsk:
            return False

    def test_right_ones_changed_in_one_place(self):
        right = wrong = 0
        for moment in (9, 10, 12, 20, 23, 30):
            for answer in told(PLAIN, 0, MOVED, B, moment):
                askings = askings_for(PLAIN, 0, MOVED, B, moment, answer)
                self.assertIs(is_askings_for(PLAIN, 0, MOVED, B, moment, answer, askings), True)
                for thing in spoilt(askings):
                    expected = self.is_right(thing, moment, answer)
                    self.assertIs(is_askings_for(PLAIN, 0, MOVED, B, moment, answer, thing), expected)
                    right, wrong = right + expected, wrong + (not expected)
        self.assertTrue(right >= 3 and wrong > 100, (right, wrong))

    def test_other_ways(self):
        for thing, moment, answer, expected in [
                ([], 9, (BA, 1), True), ([], 10, (BA, 1), False), ([(5, 0, BA), (5, 0, AB)], 9, (BA, 1), True),
                ([(9, 0, BA)], 12, (BA, 1), True), ([(9, 0, BA)], 12, (BA, 2), False), ([(9, 0, BA)], 12, None, False),
                ([(9, 0, BA)], 12, (BA, 7), False), ([(9, 0, BA), (12, 0, A), (12, 1, BA)], 12, (BA, 1), True),
                ([(9, 0, BA), (8, 0, A)], 12, (BA, 1), False), ([(9, 0, BA), (13, 0, A)], 12, (BA, 1), False),
                (((9, 0, BA),), 12, (BA, 1), False), ([], 30, None, True), ([], -FAR, (BA, 1), True)]:
            self.assertIs(is_askings_for(PLAIN, 0, MOVED, B, moment, answer, thing), expected)

    def test_any_value(self):
        for thing in odd_values():
            self.assertIs(is_askings_for(PLAIN, 0, MOVED, B, 9, (BA, 1), thing), False)
            self.assertIs(is_askings_for(PLAIN, 0, MOVED, B, 9, (BA, 1), [thing]), False)
            self.assertIs(is_askings_for(PLAIN, 0, MOVED, B, 9, (BA, 1), [(0, 0, BA), thing]), False)
        for thing in (deep(list), deep(tuple), [deep(tuple)], [(0, 0, deep(tuple))], [(deep(list), 0, A)]):
            self.assertIs(is_askings_for(PLAIN, 0, MOVED, B, 9, (BA, 1), thing), False)
        many = [(at, 0, BA) for at in range(-4000, 0)]
        self.assertIs(is_askings_for(PLAIN, 0, MOVED, B, 9, (BA, 1), many), True)
        one = History(Zone({BA: 1}), [])
        self.assertIs(is_askings_for(PLAIN, 0, one, B, 9, (BA, 1), []), True)
        self.assertIs(is_askings_for(PLAIN, 0, one, B, 9, (BA, True), []), False)

    def test_as_played(self):
        random = Random(813)
        right = 0
        for _ in range(200):
            scene = drawn_scene(random, 8)
            house, short, moment = random.randrange(len(scene.houses)), random.choice(SHORTS[:3]), scene.drawn_moment(random)
            names = scene.houses[house][0].candidates(short) + [A]
            askings = drawn_askings(random, scene, names, moment, random.randint(0, 9))
            kept = list(askings)
            for answer in told(scene.town, house, scene.history, short, moment) + [(A, 999)]:
                expected = scene.played(house, askings, short, moment) == answer
                self.assertIs(is_askings_for(scene.town, house, scene.history, short, moment, answer, askings), expected)
                right += expected
            self.assertEqual(askings, kept)
        self.assertEqual(right, 200)


class TestHouses(unittest.TestCase):

    def test_no_house_comes_first(self):
        for thing in odd_values() + [1, 2, "0", (0,)]:
            for call in (lambda house: played(PLAIN, house, MOVED, [], B, 0), lambda house: played(PLAIN, house, MOVED, [0], B, 0),
                         lambda house: askings_for(PLAIN, house, MOVED, B, 0, (BA, 1)),
                         lambda house: askings_for(PLAIN, house, MOVED, B, 0, 0),
                         lambda house: is_askings_for(PLAIN, house, MOVED, B, 0, (BA, 1), []),
                         lambda house: is_askings_for(PLAIN, house, MOVED, B, 0, (BA, 1), 0)):
                with self.assertRaises(NoHouse) as caught:
                    call(thing)
                self.assertIs(type(caught.exception), NoHouse)
                self.assertIs(caught.exception.house, thing)

    def test_houses_begin_at_their_own_keepers(self):
        town = Town([(9, 9, {(): 1}), (3, 3, LAST)], [(Host([A]), 0), (Host([A]), 1), (Host([B]), 1)])
        history = History(Zone({BA: 1, ("b", "b"): 5}), [(0, ("take", BA)), (1, STAY)])
        for house, moment, answers in [(0, 11, [(BA, 1), None]), (0, 12, [None]), (1, 2, [(BA, 1), None]), (1, 3, [None])]:
            self.assertEqual(told(town, house, history, B, moment), answers)
            for answer in answers:
                askings = askings_for(town, house, history, B, moment, answer)
                self.assertEqual(played(town, house, history, askings, B, moment), answer)
        self.assertEqual(played(town, 2, history, [(-1, 1, BA)], B, 1), (("b", "b"), 5))
        self.assertEqual(played(town, 1, history, [(-1, 1, BA)], B, 1), (BA, 1))
        self.assertEqual(played(town, 1, history, [(-1, 0, BA)], B, 2), (BA, 1))
