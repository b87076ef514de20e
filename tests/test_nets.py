"""Nets, [72] with what [2] says of keepers, [9] as far as single asks go, and [10]."""

import doctest
import unittest
from random import Random

from listnames.errors import Late, Nothing, NoStep, Wrong
from listnames.histories import History
from listnames.hosts import Host
from listnames.nets import Net
from listnames.towns import Town
from listnames.zones import Zone
from things import odd_values, shorts_upto
from townsbyhand import PlainNet, drawn_town

EXAMPLE = """
>>> from listnames.hosts import Host
>>> from listnames.nets import Net
>>> from listnames.towns import Town
>>> from listnames.zones import Zone
>>> near = (60, 10, {(): 1, ("lab",): None})
>>> town = Town([near, (100, 20, {(): None})], [(Host([("house",), ("lab",)]), 0)])
>>> [town.road(0, ("db", "house")), town.ages(0, ("db", "house")), town.ages(0, ("db", "lab"))]
[[0, 1], (160, 30), (60, 10)]
>>> net = Net(Zone({}), town)
>>> [net.step(("ask", 1, ("db", "house"))), net.step(("wait", 20)), net.step(("put", ("db", "house"), 5)), net.step(("short", 0, ("db",)))]
[('lost', None), None, None, None]
>>> [net.step(("wait", 10)), net.step(("short", 0, ("db",))), net.step(("wait", 1)), net.step(("short", 0, ("db",)))]
[None, None, None, (('db', 'house'), 5)]
"""
A, B, AB, BA = ("a",), ("b",), ("a", "b"), ("b", "a")
STAY = ("stay",)
GREATEST = 1000000
NAMES = shorts_upto(3, "ab")
PLAIN = Town([(3, 1, {(): None})], [(Host([A]), 0)])


def drawn_step(random, net):
    """A step; a change often comes behind something else at its moment, or cannot be done."""
    kind = random.choice(["wait", "wait", "ask", "ask", "ask", "short", "short", "put", "put", "take", "take", "stay"])
    if kind == "wait":
        return ("wait", random.choice([1, 1, 1, 2, 3, 9]))
    if kind == "ask":
        return ("ask", random.randrange(len(net.keepers)), random.choice(NAMES))
    if kind == "short":
        return ("short", random.randrange(len(net.houses)), random.choice(NAMES[:6]))
    if kind == "put":
        return ("put", random.choice(NAMES), random.randrange(3))
    if kind == "take":
        return ("take", random.choice(sorted(net.values)) if net.values and random.random() < 0.9 else ("q",))
    return STAY


def drawn_runs(random, many, steps):
    """Nets with plain ones that stand where they do, and for each step what the plain one knows of it."""
    for _ in range(many):
        keepers, houses = drawn_town(random)
        values = {name: random.randrange(3) for name in random.sample(NAMES, random.randint(0, 4))}
        moment = random.choice([0, -GREATEST, 17, GREATEST - 30])
        plain = PlainNet(values, keepers, houses, moment)
        yield Net(Zone(values), Town(keepers, houses), moment=moment), plain, random.randint(1, steps)


class TestMaking(unittest.TestCase):

    def wrong(self, place, *given, **named):
        with self.assertRaises(Wrong) as caught:
            Net(*given, **named)
        self.assertEqual(caught.exception.place, place)

    def test_wrong(self):
        for thing in odd_values():
            if not isinstance(thing, Zone):
                self.wrong(0, thing, PLAIN)
                self.wrong(0, thing, None, moment=None)
            if not isinstance(thing, Town):
                self.wrong(1, Zone({}), thing)
                self.wrong(1, Zone({}), thing, moment=True)
            if thing != -1:
                self.wrong(2, Zone({}), PLAIN, moment=thing)
        for moment in (GREATEST + 1, -GREATEST - 1, "0", True):
            self.wrong(2, Zone({}), PLAIN, moment=moment)
        with self.assertRaises(TypeError):
            Net(Zone({}), PLAIN, 1)

    def test_beginning(self):
        self.assertEqual(Net(Zone({}), PLAIN).moment(), 0)
        for moment in (0, 5, GREATEST, -GREATEST):
            zone = Zone({A: 1})
            net = Net(zone, PLAIN, moment=moment)
            zone[B] = 2
            self.assertEqual([net.moment(), net.run(), len(net), net.kept()], [moment, [], 0, []])
            self.assertTrue(net.zone() == Zone({A: 1}) and net.history() == History(Zone({A: 1}), []))
            net.zone()[B] = 2
            net.history().zone_at(0)[B] = 2
            self.assertTrue(net.zone() == Zone({A: 1}))
            self.assertEqual(net.step(("ask", 0, B)), ("lost", None))
            self.assertEqual(net.step(("ask", 0, A)), ("found", 1))


class TestSteps(unittest.TestCase):

    def test_example(self):
        test = doctest.DocTestParser().get_doctest(EXAMPLE, {}, "nets", None, 0)
        self.assertEqual(doctest.DocTestRunner().run(test), (0, 10))

    def test_drawn_runs(self):
        random = Random(72)
        refused = {Late: 0, NoStep: 0, None: 0}
        for net, plain, steps in drawn_runs(random, 700, 80):
            run, changes, first = [], [], net.zone()
            for _ in range(steps):
                step = drawn_step(random, plain)
                refusal = plain.refusal(step)
                refused[refusal] += 1
                if refusal is not None:
                    with self.assertRaises(refusal):
                        net.step(step)
                else:
                    if step[0] in ("put", "take", "stay"):
                        changes.append((plain.moment, step))
                    expected, _ = plain.step(step)
                    self.assertEqual(net.step(step), expected)
                    run.append(step)
                self.check(net, plain, run)
            self.assertTrue(net.history() == History(first, changes))
        self.assertGreater(min(refused.values()), 300)

    def check(self, net, plain, run):
        self.assertEqual([net.moment(), net.run(), len(net)], [plain.moment, run, len(run)])
        self.assertTrue(net.zone() == Zone(plain.values))
        self.assertEqual(net.kept(), plain.kept())

    def test_asked_is_what_an_ask_would_return(self):
        random = Random(720)
        for net, plain, steps in drawn_runs(random, 60, 40):
            for _ in range(steps):
                step = drawn_step(random, plain)
                if plain.refusal(step) is None:
                    net.step(step)
                    plain.step(step)
            kept, run = net.kept(), net.run()
            for keeper in range(len(plain.keepers)):
                for name in random.sample(NAMES, 4):
                    told = net.asked(keeper, name)
                    self.assertEqual(net.asked(keeper, name), told)
                    self.assertEqual([net.kept(), net.run()], [kept, run])
                    self.assertEqual(net.copied().step(("ask", keeper, name)), told)

    def keeps(self, state, net, change, number):
        """A keeper keeps what it was told of ("a",) just so long: it tells it then, and not a moment later."""
        told = net.step(("ask", 0, A))
        self.assertEqual(told[0], state)
        net.step(("wait", 1))
        net.step(change)
        net.step(("wait", number - 1))
        self.assertEqual([net.asked(0, A), net.step(("ask", 0, A))], [told, told])
        self.assertEqual(net.kept(), [(0, A, *told, 0)])
        other = net.copied()
        net.step(("wait", 1))
        self.assertEqual(net.kept(), [])
        self.assertNotEqual(net.asked(0, A), told)
        self.assertNotEqual(net.step(("ask", 0, A)), told)
        self.assertEqual(net.kept()[0][4], number + 1)
        self.assertEqual(other.asked(0, A), told)

    def test_kept_just_so_long(self):
        town = Town([(7, 4, {(): None})], [(Host([A]), 0)])
        self.keeps("found", Net(Zone({A: 1}), town), ("take", A), 7)
        self.keeps("found", Net(Zone({A: 1}), town), ("put", A, 2), 7)
        self.keeps("found", Net(Zone({A: 1, BA: 1}), town), ("take", A), 7)
        self.keeps("lost", Net(Zone({}), town), ("put", A, 1), 4)
        self.keeps("lost", Net(Zone({}), town), ("put", BA, 1), 4)
        self.keeps("empty", Net(Zone({BA: 1}), town), ("take", BA), 4)
        self.keeps("empty", Net(Zone({BA: 1}), town), ("put", A, 1), 4)

    def test_keepers_in_a_row(self):
        town = Town([(2, 0, {(): 1}), (5, 0, {(): 2}), (10, 0, {(): None})], [(Host([A]), 0)])
        net = Net(Zone({("x", "a"): 1}), town)
        self.assertEqual(net.step(("ask", 2, ("x", "a"))), ("found", 1))
        for step in [("wait", 1), ("take", ("x", "a")), ("wait", 9), ("ask", 1, ("x", "a")), ("wait", 5)]:
            net.step(step)
        self.assertEqual(net.kept(), [(1, ("x", "a"), "found", 1, 10)])
        self.assertEqual(net.step(("short", 0, ("x",))), (("x", "a"), 1))
        self.assertEqual(net.kept(), [(0, ("x", "a"), "found", 1, 15), (1, ("x", "a"), "found", 1, 10)])
        net.step(("wait", 2))
        self.assertEqual(net.step(("short", 0, ("x",))), (("x", "a"), 1))
        net.step(("wait", 1))
        self.assertIs(net.step(("short", 0, ("x",))), None)
        self.assertEqual(net.kept(), [(at, ("x", "a"), "lost", None, 18) for at in range(3)])

    def test_tables_that_part(self):
        town = Town([(9, 9, {(): 1, A: None, BA: 2}), (9, 9, {(): None}), (9, 9, {(): None})], [(Host([A]), 0)])
        net = Net(Zone({}), town)
        for name in [B, A, BA, ("b", "b", "a"), ("b", "b")]:
            net.step(("ask", 0, name))
        self.assertEqual([(at, name) for at, name, *_ in net.kept()],
                         [(0, A), (0, B), (0, BA), (0, ("b", "b")), (0, ("b", "b", "a")), (1, B), (1, ("b", "b")),
                          (2, BA), (2, ("b", "b", "a"))])

    def test_short_asks_up_to_the_one_that_is_taken(self):
        zone = Zone({("x", "b"): 5, ("y", "x", "a"): 6})
        for stops, names, answer in [(True, [("x", "a")], None), (False, [("x", "a"), ("x", "b")], (("x", "b"), 5))]:
            net = Net(zone, Town([(9, 9, {(): None})], [(Host([A, B, ("c",)], stops=stops), 0)]))
            self.assertEqual(net.step(("short", 0, ("x",))), answer)
            self.assertEqual([name for _, name, *_ in net.kept()], names)
        net = Net(zone, Town([(9, 9, {(): None})], [(Host([A, B], dots=0), 0), (Host([]), 0)]))
        self.assertIs(net.step(("short", 1, ("x",))), None)
        self.assertIs(net.step(("short", 0, ("z", "z"))), None)
        self.assertEqual([name for _, name, *_ in net.kept()], [("z", "z"), ("z", "z", "a"), ("z", "z", "b")])


class TestRefusals(unittest.TestCase):

    def refuses(self, net, error, thing):
        stood = [net.moment(), net.run(), net.kept()]
        with self.assertRaises(error) as caught:
            net.step(thing)
        self.assertIs(type(caught.exception), error)
        self.assertEqual(vars(caught.exception), {})
        self.assertEqual([net.moment(), net.run(), net.kept()], stood)

    def test_any_value(self):
        net = Net(Zone({A: 1}), Town([(1, 1, {(): 1}), (1, 1, {(): None})], [(Host([A]), 0)]))
        bad = [(), ("wait",), ("wait", 0), ("wait", -1), ("wait", GREATEST + 1), ("wait", True), ("wait", "1"), ("wait", 1, 1),
               ["wait", 1], ("ask", 0), ("ask", 0, ()), ("ask", 2, A), ("ask", -1, A), ("ask", False, A), ("ask", 0, "a"),
               ("ask", 0, A, A), ["ask", 0, A], ("ask", 0, ["a"]), ("short", 0), ("short", 1, A), ("short", -1, A),
               ("short", False, A), ("short", 0, ()), ("short", 0, A, 0), ("put", A), ("put", A, 1000), ("put", (), 1),
               ("put", A, True), ("take",), ("take", ()), ("take", A, 0), ("stay", 0), ["stay"], ("go",), (("stay",),), "stay"]
        for thing in bad + odd_values():
            self.refuses(net, NoStep, thing)
        for thing in odd_values():
            for step in [("wait", thing), ("ask", thing, A), ("ask", 0, thing), ("short", thing, A), ("short", 0, thing),
                         ("put", thing, 1), ("put", A, thing), ("take", thing), (thing,), (thing, 0, A), (thing, 1)]:
                self.refuses(net, NoStep, step)
        self.assertEqual([net.step(("ask", 1, A)), net.step(("short", 0, A))], [("found", 1), None])

    def test_waits(self):
        net = Net(Zone({}), PLAIN)
        self.refuses(net, NoStep, ("wait", GREATEST + 1))
        net.step(("wait", GREATEST))
        self.assertEqual(net.moment(), GREATEST)
        for many in (1, 2, GREATEST):
            self.refuses(net, NoStep, ("wait", many))
        net.step(STAY)
        self.assertEqual(net.back(), STAY)
        net.back()
        net.step(("wait", GREATEST - 1))
        self.refuses(net, NoStep, ("wait", 2))
        net.step(("wait", 1))
        net = Net(Zone({}), PLAIN, moment=-GREATEST)
        net.step(("wait", GREATEST))
        net.step(("wait", GREATEST))
        self.refuses(net, NoStep, ("wait", 1))

    def test_late(self):
        for step in [("ask", 0, A), ("short", 0, A), ("put", A, 1), ("take", B), STAY]:
            net = Net(Zone({B: 1}), PLAIN)
            net.step(step)
            for change in [STAY, ("put", A, 1), ("put", B, 1), ("take", B), ("take", ("zz",))]:
                self.refuses(net, Late, change)
            net.step(("wait", 1))
            self.refuses(net, NoStep, ("take", ("zz",)))
            net.step(STAY)
            self.refuses(net, Late, STAY)
            self.assertEqual([net.back(), net.back()], [STAY, ("wait", 1)])
            self.refuses(net, Late, STAY)
            net.back()
            net.step(STAY)

    def test_what_cannot_be_done(self):
        names = [("n" + sign,) for sign in "abcdefghijklmnopqrstuvwxyz"] + [("m" + sign,) for sign in "abcd"]
        net = Net(Zone({name: 1 for name in names}), PLAIN)
        self.refuses(net, NoStep, ("put", A, 1))
        self.refuses(net, NoStep, ("take", A))
        net.step(("put", names[0], 5))
        self.refuses(net, Late, ("put", A, 1))
        net.step(("wait", 1))
        self.refuses(net, NoStep, ("put", A, 1))
        net.step(("take", names[0]))
        net.step(("wait", 1))
        net.step(("put", A, 1))

    def test_forty_changes(self):
        net = Net(Zone({A: 1}), PLAIN)
        for _ in range(40):
            net.step(STAY)
            net.step(("wait", 1))
        for change in [STAY, ("put", A, 1), ("take", A), ("take", B)]:
            self.refuses(net, NoStep, change)
        net.step(("ask", 0, A))
        self.refuses(net, NoStep, STAY)
        self.assertEqual(len(net.history()), 40)
        for _ in range(3):
            net.back()
        net.step(("put", A, 2))
        self.refuses(net, NoStep, STAY)
        self.assertEqual(net.history().changes()[-1], (39, ("put", A, 2)))

    def test_nothing(self):
        net = Net(Zone({}), PLAIN)
        for _ in range(2):
            with self.assertRaises(Nothing) as caught:
                net.back()
            self.assertEqual(vars(caught.exception), {})
            net.step(("wait", 1))
            net.back()
        self.assertEqual([net.moment(), net.run()], [0, []])


class TestBack(unittest.TestCase):

    def stood(self, net):
        return [net.moment(), net.run(), net.kept(), net.zone().names(), [net.zone()[name] for name in net.zone().names()],
                net.history().changes(), [net.asked(0, name) for name in NAMES]]

    def test_to_the_beginning_and_forth_again(self):
        random = Random(721)
        for net, plain, steps in drawn_runs(random, 60, 50):
            stands, told = [self.stood(net)], []
            for _ in range(steps):
                step = drawn_step(random, plain)
                if plain.refusal(step) is None:
                    plain.step(step)
                    told.append(net.step(step))
                    stands.append(self.stood(net))
            run = net.run()
            for _ in range(2):
                for at in reversed(range(len(run))):
                    self.assertEqual(net.back(), run[at])
                    self.assertEqual(self.stood(net), stands[at])
                with self.assertRaises(Nothing):
                    net.back()
                for at, step in enumerate(run):
                    self.assertEqual(net.step(step), told[at])
                    self.assertEqual(self.stood(net), stands[at + 1])

    def test_copied(self):
        random = Random(722)
        for net, plain, steps in drawn_runs(random, 40, 40):
            for _ in range(steps):
                step = drawn_step(random, plain)
                if plain.refusal(step) is None:
                    plain.step(step)
                    net.step(step)
            stood, other = self.stood(net), net.copied()
            self.assertTrue(other == net)
            self.assertEqual(self.stood(other), stood)
            for step in [("ask", 0, A), ("short", 0, B), ("wait", 1), STAY if len(net.history()) < 40 else ("wait", 1)]:
                other.step(step)
            self.assertEqual(self.stood(net), stood)
            self.assertIs(other == net, False)
            for _ in range(len(other)):
                other.back()
            self.assertEqual(self.stood(net), stood)
            third = net.copied()
            while len(net):
                net.back()
            self.assertEqual(self.stood(third), stood)
            self.assertTrue(net == other)

    def test_results_are_new(self):
        net = Net(Zone({A: 1}), PLAIN)
        for step in [STAY, ("ask", 0, A)]:
            net.step(step)
        stood = self.stood(net)
        net.run().clear()
        net.kept().clear()
        net.zone().take(A)
        self.assertEqual(self.stood(net), stood)

    def test_equal(self):
        def run(net, *steps):
            for step in steps:
                net.step(step)
            return net
        other_town = Town([(3, 1, {(): None})], [(Host([B]), 0)])
        makers = [lambda: Net(Zone({}), PLAIN), lambda: Net(Zone({A: 1}), PLAIN), lambda: Net(Zone({}), other_town),
                  lambda: Net(Zone({}), PLAIN, moment=1), lambda: run(Net(Zone({}), PLAIN), ("wait", 1)),
                  lambda: run(Net(Zone({}), PLAIN), ("put", A, 1)), lambda: run(Net(Zone({}), PLAIN), ("ask", 0, A)),
                  lambda: run(Net(Zone({}), PLAIN), ("ask", 0, A), ("ask", 0, A)),
                  lambda: run(Net(Zone({}), PLAIN), ("ask", 0, B)), lambda: run(Net(Zone({}), PLAIN), ("wait", 2)),
                  lambda: run(Net(Zone({}), PLAIN), ("wait", 1), ("wait", 1)), lambda: run(Net(Zone({}), PLAIN), STAY)]
        for at, make in enumerate(makers):
            for beside, other in enumerate(makers):
                self.assertIs(make() == other(), at == beside)
                self.assertIs(make() != other(), at != beside)
        net = run(Net(Zone({}), PLAIN), ("ask", 0, A), ("wait", 1))
        net.back()
        self.assertTrue(net == makers[6]() and net == net.copied())
        for thing in odd_values() + [[], PLAIN]:
            self.assertIs(Net(Zone({}), PLAIN, moment=1) == thing, False)


class TestMoments(unittest.TestCase):

    def was_so(self, history, name, told, first, last):
        """The moments from first to last at which a name stood as it is told."""
        found = []
        for state, value, low, high in history.spans(name):
            if (state, value) == told:
                low, high = first if low is None else max(low, first), last if high is None else min(high, last)
                found.extend(range(low, high + 1))
        return found

    def test_what_a_house_is_told_was_so_in_its_window(self):
        random = Random(9)
        old = 0
        for net, plain, steps in drawn_runs(random, 250, 80):
            town, heard = Town(plain.keepers, plain.houses), []
            for _ in range(steps):
                step = drawn_step(random, plain)
                if plain.refusal(step) is None:
                    told, rows = plain.step(step)
                    self.assertEqual(net.step(step), told)
                    heard.extend((plain.moment, step, *row) for row in rows)
            history = net.history()
            for moment, step, name, told, was in heard:
                if step[0] != "short":
                    continue
                age = town.ages(step[1], name)[told[0] != "found"]
                self.assertIn(was, self.was_so(history, name, told, moment - age, moment))
                old += was < moment
        self.assertGreater(old, 200)

    def test_an_ask_of_a_house_is_in_its_window(self):
        random = Random(90)
        for net, plain, steps in drawn_runs(random, 100, 60):
            town, heard = Town(plain.keepers, plain.houses), []
            for _ in range(steps):
                step = drawn_step(random, plain)
                if plain.refusal(step) is None:
                    plain.step(step)
                    told = net.step(step)
                    if step[0] == "ask":
                        heard.append((net.moment(), step, told))
            for moment, (_, keeper, name), told in heard:
                for house, (_, first) in enumerate(plain.houses):
                    if first == keeper:
                        age = town.ages(house, name)[told[0] != "found"]
                        self.assertTrue(self.was_so(net.history(), name, told, moment - age, moment))

    def test_never_back(self):
        random = Random(10)
        moved = 0
        for net, plain, steps in drawn_runs(random, 150, 120):
            lasts, starts, heard, beginning = {}, {}, [], net.moment()
            for _ in range(steps):
                step = drawn_step(random, plain)
                if plain.refusal(step) is None:
                    told, known = net.step(step), plain.step(step)[1]
                    if step[0] == "ask":
                        heard.append((step, told, net.moment(), known[0][2]))
            for (_, keeper, name), told, moment, was in heard:
                key = (keeper, name)
                self.assertLessEqual(lasts.get(key, was), was)
                moved += lasts.get(key, was) < was
                lasts[key] = was
                # What the net itself told must allow moments in this order, too.
                starts[key] = self.was_so(net.history(), name, told, starts.get(key, beginning), moment)[0]
        self.assertGreater(moved, 50)
