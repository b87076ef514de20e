"""Towns, [70] with what [2] says of keepers."""

import unittest
from random import Random

from listnames.errors import NoHouse, Wrong
from listnames.hosts import Host
from listnames.towns import Town
from things import odd_values, shorts_upto
from townsbyhand import road_by_hand

A, B, AB, ABC = ("a",), ("b",), ("a", "b"), ("a", "b", "c")
HOST = Host([A])
LAST = (1, 2, {(): None})
HOUSES = [(HOST, 0)]


def drawn_keepers(random, many):
    """Keepers with tables that part."""
    found = []
    for at in range(many):
        table = {(): random.choice([None, *range(at + 1, many)])}
        for _ in range(random.randint(0, 4)):
            name = tuple(random.choice("ab") for _ in range(random.randint(0, 3)))
            table[name] = random.choice([None, *range(at + 1, many)])
        found.append((random.choice([0, 1, 2, 7, 1000]), random.choice([0, 1, 3, 1000]), table))
    return found


class TestMaking(unittest.TestCase):

    def wrong(self, place, keepers, houses):
        with self.assertRaises(Wrong) as caught:
            Town(keepers, houses)
        self.assertEqual(caught.exception.place, place)

    def bad_keeper(self, thing, many=1):
        """A keeper is refused, alone and among others, ahead of bad houses."""
        self.wrong(0, [thing], HOUSES)
        self.wrong(0, (thing,), None)
        self.wrong(0, [thing] + [LAST] * many, HOUSES)
        self.wrong(0, [LAST, thing], HOUSES)

    def test_numbers_of_keepers_and_houses(self):
        for many in range(1, 7):
            self.assertEqual(len(Town([LAST] * many, HOUSES).keepers()), many)
            self.assertEqual(len(Town((LAST,) * many, HOUSES).keepers()), many)
        for many in range(1, 5):
            self.assertEqual(len(Town([LAST], HOUSES * many).houses()), many)
            self.assertEqual(len(Town([LAST], tuple(HOUSES * many)).houses()), many)
        for many in (0, 7, 8):
            self.wrong(0, [LAST] * many, HOUSES)
            self.wrong(0, (LAST,) * many, [])
        for many in (0, 5, 6):
            self.wrong(1, [LAST], HOUSES * many)
            self.wrong(1, [LAST], tuple(HOUSES * many))

    def test_bounds_of_numbers(self):
        for number in (0, 1, 999, 1000):
            self.assertEqual(Town([(number, 5, {(): None})], HOUSES).ages(0, A), (number, 5))
            self.assertEqual(Town([(5, number, {(): None})], HOUSES).ages(0, A), (5, number))
        for number in odd_values() + [-1, 1001, 10 ** 39, "1", (1,)]:
            self.bad_keeper((number, 5, {(): None}))
            self.bad_keeper((5, number, {(): None}))

    def test_tables(self):
        for table in [{(): None}, {A: None, (): None}, {(): None, ABC: None, AB: None, B: None, A: None}]:
            self.assertEqual(Town([(0, 0, table)], HOUSES).keepers(), [(0, 0, table)])
        six = {(): None, A: None, B: None, AB: None, ABC: None, ("c",): None}
        for table in odd_values() + [{}, {A: None}, six, {(): None, ("a",) * 4: None}, {(): None, "a": None}, {"": None},
                                     {(): None, 0: None}, {(): None, ("a", 1): None}, {(): None, None: None},
                                     {(): None, ("A",): None}, {(): None, True: None}, [((), None)], [()]]:
            if table != {(): 0}:
                self.bad_keeper((1, 1, table))

    def test_leads(self):
        keepers = [(0, 0, {(): 3, A: 1, B: 2}), LAST, LAST, LAST]
        self.assertEqual(Town(keepers, HOUSES).keepers(), keepers)
        for lead in odd_values() + [0, 4, 5, -1, "1", 10 ** 39, (1,)]:
            if lead is not None:
                self.wrong(0, [(0, 0, {(): lead}), LAST, LAST, LAST], HOUSES)
                self.wrong(0, [(0, 0, {(): 1, A: lead}), LAST, LAST, LAST], HOUSES)
        self.wrong(0, [LAST, (0, 0, {(): 1})], HOUSES)
        self.wrong(0, [LAST, (0, 0, {(): 0})], HOUSES)
        self.wrong(0, [LAST, LAST, (0, 0, {(): 3})], HOUSES)
        self.wrong(0, [(0, 0, {(): True}), LAST], HOUSES)

    def test_keepers_are_tuples_of_three(self):
        for thing in odd_values() + [[1, 2, {(): None}], (1, 2), (1, 2, {(): None}, 3), (1, {(): None}, 2), ({(): None}, 1, 2)]:
            self.bad_keeper(thing)
        for thing in odd_values() + [{0: LAST}, LAST, iter([LAST])]:
            self.wrong(0, thing, HOUSES)
            self.wrong(0, thing, thing)

    def test_houses(self):
        for first in range(3):
            self.assertEqual(Town([LAST] * 3, [(HOST, first)]).road(0, A), [first])
        for first in odd_values() + [3, 4, -1, "0", (0,)]:
            self.wrong(1, [LAST] * 3, [(HOST, first)])
            self.wrong(1, [LAST] * 3, [(HOST, 0), (HOST, first)])
        for thing in odd_values() + [(HOST,), (HOST, 0, 0), [HOST, 0], (0, HOST), HOST, (A, 0), ([A], 0)]:
            self.wrong(1, [LAST], [thing])
            self.wrong(1, [LAST], [(HOST, 0), thing])
            if not (isinstance(thing, Host)):
                self.wrong(1, [LAST], [(thing, 0)])
        for thing in odd_values() + [{0: HOUSES[0]}, HOUSES[0], iter(HOUSES)]:
            self.wrong(1, [LAST], thing)

    def test_copies(self):
        table, second = {(): 1, A: None}, {(): None}
        keepers, houses = [(1, 2, table), (3, 4, second)], [(HOST, 0), (Host([B], dots=1), 1)]
        town = Town(keepers, houses)
        kept = [(1, 2, {(): 1, A: None}), (3, 4, {(): None})]
        table[A] = 1
        table[B] = 1
        second.clear()
        keepers.pop()
        houses.clear()
        for _ in range(2):
            self.assertEqual([town.keepers(), len(town.houses())], [kept, 2])
            self.assertTrue(town.houses()[1][0] == Host([B], dots=1) and town.houses()[1][1] == 1)
            found = town.keepers()
            found[0][2][A] = 1
            found[1][2].clear()
            found.clear()
            town.houses().clear()
        self.assertEqual([town.road(0, A), town.road(0, B)], [[0], [0, 1]])

    def test_no_table_stands_twice(self):
        town = Town([LAST, LAST], HOUSES)
        found = town.keepers()
        found[0][2][A] = None
        self.assertEqual(found[1], LAST)
        self.assertEqual(LAST, (1, 2, {(): None}))
        self.assertEqual(town.keepers(), [LAST, LAST])


class TestRoads(unittest.TestCase):

    def test_by_hand(self):
        random = Random(70)
        for _ in range(300):
            keepers = drawn_keepers(random, random.randint(1, 6))
            firsts = [random.randrange(len(keepers)) for _ in range(random.randint(1, 4))]
            town = Town(keepers, [(HOST, first) for first in firsts])
            for house, first in enumerate(firsts):
                for name in shorts_upto(4, "ab")[::2] + [("c",), ("a", "c"), ("b",) * 12]:
                    road = road_by_hand(keepers, first, name)
                    self.assertEqual(town.road(house, name), road)
                    ages = (sum(keepers[at][0] for at in road), sum(keepers[at][1] for at in road))
                    self.assertEqual(town.ages(house, name), ages)
                    self.assertIs(type(town.ages(house, name)), tuple)

    def test_the_longest_name_leads(self):
        table = {(): 1, ("c",): 2, ("b", "c"): 3, ("a", "b", "c"): None}
        town = Town([(10, 20, table), (1, 5, {(): 2}), (2, 6, {(): 3}), (3, 7, {(): None})], HOUSES)
        for name, road in [(("x",), [0, 1, 2, 3]), (("c",), [0, 2, 3]), (("x", "c"), [0, 2, 3]), (("b", "c"), [0, 3]),
                           (("x", "b", "c"), [0, 3]), (("a", "b", "c"), [0]), (("x", "a", "b", "c"), [0]),
                           (("c", "x"), [0, 1, 2, 3])]:
            self.assertEqual(town.road(0, name), road)
        self.assertEqual([town.ages(0, ("x",)), town.ages(0, ("c",)), town.ages(0, ABC)], [(16, 38), (15, 33), (10, 20)])

    def test_host(self):
        hosts = [Host([A]), Host([B], dots=2, stops=True), Host([])]
        town = Town([LAST], [(host, 0) for host in hosts])
        for house, host in enumerate(hosts):
            self.assertTrue(town.host(house) == host)

    def test_no_house(self):
        for many in (1, 3, 4):
            town = Town([LAST], HOUSES * many)
            for thing in odd_values() + [many, many + 1, -1, "0", (0,), [0], HOST]:
                for call in (town.host, lambda house: town.road(house, A), lambda house: town.ages(house, A)):
                    with self.assertRaises(NoHouse) as caught:
                        call(thing)
                    self.assertIs(caught.exception.house, thing)

    def test_lists_are_new(self):
        town = Town([(1, 2, {(): 1}), LAST], HOUSES)
        town.road(0, A).clear()
        self.assertEqual(town.road(0, A), [0, 1])


class TestOthers(unittest.TestCase):

    def test_with_keep(self):
        keepers = [(1, 2, {(): 1, A: None}), (3, 4, {(): None})]
        town = Town(keepers, [(HOST, 0), (HOST, 1)])
        for number in (0, 1, 5, 1000):
            for kind, place in (("found", 0), ("lost", 1)):
                for keeper in (0, 1):
                    changed = [list(row) for row in keepers]
                    changed[keeper][place] = number
                    other = town.with_keep(keeper, kind, number)
                    self.assertTrue(other == Town([tuple(row) for row in changed], [(HOST, 0), (HOST, 1)]))
                    self.assertEqual(other.keepers(), [tuple(row) for row in changed])
        self.assertEqual(town.keepers(), keepers)

    def test_equal(self):
        makers = [lambda: [LAST], lambda: [(1, 3, {(): None})], lambda: [(2, 2, {(): None})], lambda: [LAST, LAST],
                  lambda: [(1, 2, {(): 1}), LAST], lambda: [(1, 2, {(): 1, A: None}), LAST],
                  lambda: [(1, 2, {(): 1, A: 1}), LAST]]
        lists = [[(HOST, 0)], [(Host([B]), 0)], [(Host([A], stops=True), 0)], [(HOST, 0), (HOST, 0)]]
        towns = [Town(make(), houses) for make in makers for houses in lists]
        towns += [Town([LAST, LAST], [(HOST, 1)]), Town([LAST, LAST], [(HOST, 0), (HOST, 1)]),
                  Town([LAST, LAST], [(HOST, 1), (HOST, 0)])]
        again = [Town([(found, lost, dict(reversed(table.items()))) for found, lost, table in town.keepers()],
                      tuple(town.houses())) for town in towns]
        for at, one in enumerate(towns):
            for beside, other in enumerate(again):
                self.assertIs(one == other, at == beside)
                self.assertIs(one != other, at != beside)
        for thing in odd_values() + [[LAST], HOUSES]:
            self.assertIs(Town([LAST, LAST], HOUSES) == thing, False)
