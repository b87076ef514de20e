"""Notation, [101] with [71], [90] and what hosts, zones and towns refuse."""

import unittest
from random import Random

from byhand import drawn_host, drawn_name, drawn_names
from listnames.errors import NoText
from listnames.hosts import Host
from listnames.notation import (read_change, read_demand, read_host, read_name, read_town, read_zone, show_change, show_demand,
                                show_host, show_name, show_town, show_zone)
from listnames.towns import Town
from listnames.zones import Zone
from things import odd_values
from townsbyhand import A, AB, B, BA, STAY, drawn_town

LAST = {(): None}
HOST = Host([A])
DB = ("db", "lab", "house")
READERS = [read_name, read_host, read_zone, read_change, read_demand, read_town]
SIGNS = [" ", "\t", "\n", ".", "=", "-", "0", "1", "9", "a", "A", "z", "~", "+", "_", "zone", "stops ", " put", "\n\n", "  "]
LONG = "1" * 41


def name_by_hand(name):
    text = ""
    for label in name:
        text += ("." if text else "") + label
    return text or "."


def host_by_hand(host):
    text = "stops" if host.stops else "goes"
    text += " -" if host.dots is None else " %d" % host.dots
    for suffix in host.suffixes():
        text += " " + name_by_hand(suffix)
    return text


def demand_by_hand(demand):
    text = "%d %d %s" % (demand[0], demand[1], name_by_hand(demand[2]))
    for answer in demand[3]:
        text += " -" if answer is None else " %s=%d" % (name_by_hand(answer[0]), answer[1])
    return text


def town_by_hand(town):
    text = ""
    for found, lost, table in town.keepers():
        text += "keeper %d %d" % (found, lost)
        for name in sorted(table):
            text += " %s=%s" % (name_by_hand(name), "zone" if table[name] is None else table[name])
        text += "\n"
    for host, first in town.houses():
        text += "house %d %s\n" % (first, host_by_hand(host))
    return text


def drawn_demand(random):
    answers = [None, (BA, 0), (BA, 999), (("lab", "house"), 10), (("a",) * 12, 7)] + [(A, value) for value in range(8)]
    return (random.randint(0, 10), random.randrange(4), drawn_name(random, 1, 8, ["a", "b", "house", "abcdefgh"]),
            random.sample(answers, random.randint(0, 11)))


class Notation(unittest.TestCase):

    def no_text(self, read, *things):
        for thing in things:
            with self.assertRaises(NoText, msg=(read, thing)) as caught:
                read(thing)
            self.assertIs(type(caught.exception), NoText)
            self.assertEqual(vars(caught.exception), {})

    def spoils(self, show, read, text):
        """Whatever is changed in one sign is refused, or is just what another thing is written as."""
        found = [text[:at] + text[at + 1:] for at in range(len(text))]
        for sign in SIGNS:
            found += [text[:at] + sign + text[at:] for at in range(len(text) + 1)]
            found += [text[:at] + sign + text[at + 1:] for at in range(len(text))]
        refused = 0
        for other in found:
            try:
                thing = read(other)
            except NoText:
                refused += 1
                continue
            self.assertEqual(show(thing), other)
        return refused / len(found)


class TestNames(Notation):

    def test_shown(self):
        for name, text in [((), "."), (A, "a"), (DB, "db.lab.house"), (("a",) * 12, ".".join("a" * 12)), (("abcdefgh",), "abcdefgh")]:
            self.assertEqual(show_name(name), text)
            self.assertEqual(read_name(text), name)

    def test_drawn(self):
        random = Random(1010)
        for _ in range(200):
            name = drawn_name(random, 0, 12, ["a", "b", "lab", "abcdefgh", "zone", "zzzzzzzz"])
            self.assertEqual(show_name(name), name_by_hand(name))
            self.assertEqual(read_name(name_by_hand(name)), name)

    def test_names_of_many_labels(self):
        name = ("ab",) * 5000
        self.assertEqual(read_name(show_name(name)), name)
        self.no_text(read_name, "ab." * 5000, "." * 5000, "a" * 5000)

    def test_no_text(self):
        self.no_text(read_name, "", "..", ".a", "a.", "a..b", "A", "a.B", "a b", " a", "a ", "a\n", "\na", "\t", "a\t", "abcdefghi",
                     "a.abcdefghi", "a1", "1", "-", "=", "a=1", "~", "a,b", ". ", " .", "...", "a.b.")
        self.assertGreater(self.spoils(show_name, read_name, "db.lab.house"), 0.7)
        self.assertGreater(self.spoils(show_name, read_name, "."), 0.8)


class TestHosts(Notation):

    def test_shown(self):
        for host, text in [(Host([]), "goes -"), (Host([], stops=True), "stops -"), (Host([], dots=0), "goes 0"),
                           (Host([A, ("lab", "house")], dots=4, stops=True), "stops 4 a lab.house"),
                           (Host([B, A, DB]), "goes - b a db.lab.house")]:
            self.assertEqual(show_host(host), text)
            self.assertTrue(read_host(text) == host)

    def test_drawn(self):
        random = Random(1011)
        for _ in range(200):
            host = drawn_host(random, 5, ["a", "b", "lab", "abcdefgh"])
            self.assertEqual(show_host(host), host_by_hand(host))
            self.assertTrue(read_host(host_by_hand(host)) == host)

    def test_no_text(self):
        self.no_text(read_host, "", "goes", "stops", "goes ", "goes  -", " goes -", "goes - ", "goes -\n", "Goes -", "go -", "goes 5",
                     "goes 00", "goes 01", "goes +1", "goes -1", "goes --", "goes a", "goes None", "- goes", "goes - .", "goes - a.b.c.d",
                     "goes - a a", "goes - a  b", "goes - a\tb", "goes\t-", "goes - a b c d e f", "goes - a,b", "goes - A", "goes - a.",
                     "goes " + LONG, "goes " + "1" * 40, "goes 1 2", "goes - -", "stops goes -", "goes -\na", "goes - a=1", "goes 1.0")
        self.assertTrue(read_host("goes - a b c d e") == Host([(sign,) for sign in "abcde"]))
        self.assertGreater(self.spoils(show_host, read_host, "stops 2 lab.house a"), 0.6)


class TestZones(Notation):

    def test_shown(self):
        for values, text in [({}, ""), ({A: 0}, "a 0\n"), ({B: 999, AB: 10, A: 1}, "a 1\na.b 10\nb 999\n"),
                             ({("ab",): 1, ("a", "z"): 2}, "a.z 2\nab 1\n"), ({("a",) * 12: 7}, ".".join("a" * 12) + " 7\n")]:
            self.assertEqual(show_zone(Zone(values)), text)
            self.assertTrue(read_zone(text) == Zone(values))

    def test_drawn(self):
        random = Random(1012)
        for _ in range(200):
            names = drawn_names(random, random.randint(0, 30), 1, 4, ["a", "b", "ab", "abcdefgh"])
            zone = Zone({name: random.choice([0, 7, 10, 999]) for name in names})
            text = "".join("%s %d\n" % (name_by_hand(name), zone[name]) for name in sorted(names))
            self.assertEqual(show_zone(zone), text)
            self.assertTrue(read_zone(text) == zone)
            if len(names) > 1:
                rows = text.split("\n")[:-1]
                random.shuffle(rows)
                other = "".join(row + "\n" for row in rows)
                if other != text:
                    self.no_text(read_zone, other)

    def test_thirty_names(self):
        rows = ["n" + one + two + " 5\n" for one in "ab" for two in "abcdefghijklmnopqrstuvwxyz"]
        self.assertEqual(len(read_zone("".join(rows[:30]))), 30)
        self.no_text(read_zone, "".join(rows[:31]), "".join(rows))

    def test_no_text(self):
        self.no_text(read_zone, "a 0", "a 0\n\n", "\n", "\na 0\n", "a\n", "a 0 \n", " a 0\n", "a  0\n", "a\t0\n", "a 0\nb 1", "b 1\na 0\n",
                     "a 0\na 0\n", "a 0\na 1\n", "a 1000\n", "a -1\n", "a 00\n", "a 01\n", "a +1\n", ". 0\n", "A 0\n", "a 0 0\n", "0 a\n",
                     "a a\n", "a.b.\n", "a " + LONG + "\n", "a " + "9" * 40 + "\n", "a 0\r\n", "a 0;\n", " ", "a 0\n b 1\n", "a 1_0\n",
                     "a 0\n\nb 1\n", "a=0\n", "a 1.0\n", "a 1e1\n")
        self.assertGreater(self.spoils(show_zone, read_zone, "a 10\na.b 0\nb 999\n"), 0.6)


class TestChanges(Notation):

    def test_shown(self):
        for change, text in [(("put", A, 0), "put a 0"), (("put", DB, 999), "put db.lab.house 999"), (("take", AB), "take a.b"),
                             (STAY, "stay"), (("take", ("a",) * 12), "take " + ".".join("a" * 12))]:
            self.assertEqual(show_change(change), text)
            self.assertEqual(read_change(text), change)

    def test_no_text(self):
        self.no_text(read_change, "", "put", "put a", "put a ", "put a 1 ", " put a 1", "put  a 1", "put a  1", "put a 1 1", "put a 1000",
                     "put a 01", "put a -1", "put a b", "put . 1", "put 1 a", "Put a 1", "put A 1", "put a 1\n", "put\ta 1", "take", "take ",
                     "take a ", "take .", "take a 1", "take A", "takes a", "take  a", "stay ", " stay", "stay a", "stay a 1", "stay\n", "Stay",
                     "stays", "put a " + LONG, "put a " + "1" * 40, "put a +1", "wait 1", "short 0 a", "put a.b. 1", "put a 0x1", "put a 1 ")
        for text in ("put db.lab 20", "take db.lab", "stay"):
            self.assertGreater(self.spoils(show_change, read_change, text), 0.6)


class TestDemands(Notation):

    def test_shown(self):
        for demand, text in [((0, 0, A, []), "0 0 a"), ((10, 3, ("a",) * 8, [None]), "10 3 a.a.a.a.a.a.a.a -"),
                             ((0, 0, ("db",), [(DB, 1), None, (B, 999)]), "0 0 db db.lab.house=1 - b=999")]:
            self.assertEqual(show_demand(demand), text)
            self.assertEqual(read_demand(text), demand)
            read_demand(text)[3].append(0)
            self.assertEqual(read_demand(text), demand)

    def test_drawn(self):
        random = Random(1013)
        for _ in range(300):
            demand = drawn_demand(random)
            kept = (*demand[:3], list(demand[3]))
            self.assertEqual(show_demand(demand), demand_by_hand(demand))
            self.assertEqual(read_demand(demand_by_hand(demand)), kept)
            self.assertEqual(demand, kept)

    def test_no_text(self):
        answers = ["n" + sign + "=1" for sign in "abcdefghijkl"]
        self.assertEqual(len(read_demand("0 0 a " + " ".join(answers[:11]))[3]), 11)
        self.assertEqual(len(read_demand("0 0 a - " + " ".join(answers[:10]))[3]), 11)
        self.no_text(read_demand, "", "0", "0 0", "0 0 ", "0 0 a ", " 0 0 a", "0  0 a", "0 0  a", "0 0 a  -", "11 0 a", "0 4 a", "-1 0 a",
                     "0 -1 a", "00 0 a", "0 00 a", "01 0 a", "0 0 .", "0 0 A", "0 0 a.a.a.a.a.a.a.a.a", "0 0 a - -", "0 0 a b=1 b=1", "0 0 a b",
                     "0 0 a b=", "0 0 a =1", "0 0 a b=1=", "0 0 a b==1", "0 0 a b=01", "0 0 a b=1000", "0 0 a b=-1", "0 0 a .=1", "0 0 a b=zone",
                     "0 0 a b=1\n", "0\t0 a", "0 0 a b =1", "0 0 a b= 1", "0 0 a --", "0 0 a None", "a 0 0", "0 a 0", "0 0 a " + " ".join(answers),
                     "0 0 a - " + " ".join(answers[:11]), LONG + " 0 a", "0 " + LONG + " a", "1" * 40 + " 0 a", "0 0 a b=" + LONG,
                     "0 0 a b=" + "1" * 40, "+0 0 a", "0 0 a b=+1", "0 0 a B=1", "0 0 1")
        self.assertGreater(self.spoils(show_demand, read_demand, "10 3 db.lab - db.lab.a=10 b=0"), 0.6)


class TestTowns(Notation):

    def test_shown(self):
        keepers = [(60, 10, {("lab",): None, (): 1}), (100, 0, {(): 2, DB: None, ("b", "a"): 2, ("a", "b"): None, A: 2}), (1, 1000, LAST)]
        houses = [(Host([("house",), ("lab",)]), 0), (Host([], dots=1, stops=True), 2)]
        text = ("keeper 60 10 .=1 lab=zone\nkeeper 100 0 .=2 a=2 a.b=zone b.a=2 db.lab.house=zone\nkeeper 1 1000 .=zone\n"
                "house 0 goes - house lab\nhouse 2 stops 1\n")
        self.assertEqual(show_town(Town(keepers, houses)), text)
        self.assertTrue(read_town(text) == Town(keepers, houses))
        self.assertTrue(read_town("keeper 0 0 .=zone\nhouse 0 goes -\n") == Town([(0, 0, LAST)], [(Host([]), 0)]))

    def test_drawn(self):
        random = Random(1014)
        for _ in range(200):
            town = Town(*drawn_town(random))
            self.assertEqual(show_town(town), town_by_hand(town))
            self.assertTrue(read_town(town_by_hand(town)) == town)

    def test_no_text(self):
        keeper, house = "keeper 1 2 .=zone\n", "house 0 goes -\n"
        for bad in ["keeper 1 .=zone\n", "keeper 1 2\n", "keeper 1 2 a=zone\n", "keeper 1 2 .=zone \n", " keeper 1 2 .=zone\n", "keeper\n",
                    "keeper  1 2 .=zone\n", "keeper 1 2  .=zone\n", "keeper 01 2 .=zone\n", "keeper 1 02 .=zone\n", "keeper 1001 2 .=zone\n",
                    "keeper 1 1001 .=zone\n", "keeper -1 2 .=zone\n", "keeper 1 2 .=0\n", "keeper 1 2 .=1\n", "keeper 1 2 .=7\n",
                    "keeper 1 2 .=-1\n", "keeper 1 2 .=Zone\n", "keeper 1 2 .=\n", "keeper 1 2 =zone\n", "keeper 1 2 .zone\n", "keeper 1 2 .==zone\n",
                    "keeper 1 2 a=zone .=zone\n", "keeper 1 2 .=zone .=zone\n", "keeper 1 2 .=zone b=zone a=zone\n", "Keeper 1 2 .=zone\n",
                    "keeper 1 2 .=zone a=zone a=zone\n", "keeper 1 2 .=zone a.b.c.d=zone\n", "keeper 1 2 .=zone a=zone b=zone c=zone d=zone e=zone\n",
                    "keeper 1 2 .=zone A=zone\n", "keeper 1 2 .=zone a= zone\n", "keeper\t1 2 .=zone\n", "keeper 1 2 .=zone a=00\n", "keepers 1 2 .=zone\n",
                    "keeper " + LONG + " 2 .=zone\n", "keeper 1 " + LONG + " .=zone\n", "keeper 1 2 .=" + LONG + "\n", "\n", "keeper 1 2 .=none\n"]:
            self.no_text(read_town, bad + house, keeper + bad + house, bad)
        for bad in ["house 0 goes\n", "house goes -\n", "house 1 goes -\n", "house 00 goes -\n", "house 0 goes - \n", "house  0 goes -\n",
                    "house 0  goes -\n", " house 0 goes -\n", "house -1 goes -\n", "house 0 goes 5\n", "house 0 goes - a a\n", "House 0 goes -\n",
                    "house 0 stop -\n", "house\n", "house 0\n", "houses 0 goes -\n", "house\t0 goes -\n", "house 0 goes - .\n", "\n", " \n",
                    "zone 0 goes -\n", "house " + LONG + " goes -\n", "house 0 goes " + LONG + "\n", "house zone goes -\n"]:
            self.no_text(read_town, keeper + bad, keeper + house + bad, bad)
        self.no_text(read_town, "", keeper, house, house + keeper, keeper + house + keeper, keeper + house[:-1], keeper[:-1] + house,
                     keeper + house + "\n", "\n" + keeper + house, keeper + "\n" + house, keeper * 7 + house, keeper + house * 5, house * 2,
                     keeper + house + " ", keeper.upper() + house, keeper + house + "house 0 goes -")
        self.assertTrue(read_town(keeper * 6 + house * 4) == Town([(1, 2, LAST)] * 6, [(Host([]), 0)] * 4))
        self.assertTrue(read_town(keeper * 2 + "house 1 goes -\n") == Town([(1, 2, LAST)] * 2, [(Host([]), 1)]))

    def test_spoilt(self):
        text = "keeper 60 10 .=1 lab=zone\nkeeper 7 0 .=zone\nhouse 1 goes - a\nhouse 0 stops 1\n"
        self.assertGreater(self.spoils(show_town, read_town, text), 0.6)


class TestAnyValue(Notation):

    def test_any_value(self):
        for read in READERS:
            for thing in odd_values():
                if not (read == read_zone and thing == "") and not (read == read_name and thing == "a" * 3):
                    self.no_text(read, thing)
            self.no_text(read, b"a", b".", ["a"], ("a",), Host([]), Zone({}), 1, "a" * 19000 + " ", " " * 19000, "\n" * 19000)

    def test_others_are_no_such_text(self):
        texts = ["a.b", "goes -", "a 0\n", "stay", "0 0 a", "keeper 1 2 .=zone\nhouse 0 goes -\n"]
        for at, read in enumerate(READERS):
            for beside, text in enumerate(texts):
                if at == beside:
                    read(text)
                elif (at, beside) != (0, 3):
                    self.no_text(read, text)

    def test_nothing_changes(self):
        host, zone, town = Host([A, B], dots=1), Zone({A: 1, B: 2}), Town([(1, 2, {(): None, A: None})], [(HOST, 0)])
        for _ in range(2):
            self.assertEqual([show_host(host), show_zone(zone), show_town(town)],
                             ["goes 1 a b", "a 1\nb 2\n", "keeper 1 2 .=zone a=zone\nhouse 0 goes - a\n"])
        self.assertTrue(host == Host([A, B], dots=1) and zone == Zone({A: 1, B: 2}))
        first, second = read_zone("a 1\n"), read_zone("a 1\n")
        first[B] = 1
        self.assertTrue(second == Zone({A: 1}))
