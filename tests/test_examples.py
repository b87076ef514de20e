"""Every example of the document, word for word."""

import doctest
import unittest

EXAMPLES = {
    "changes": """
>>> from listnames.changes import hidden, taken_over
>>> from listnames.hosts import Host
>>> from listnames.zones import Zone
>>> host = Host([("lab", "house"), ("house",)], stops=True)
>>> zone = Zone({("db", "house"): 7})
>>> [host.candidates(("db",)), host(zone, ("db",)), host.looked(zone, ("db",))]
[[('db', 'lab', 'house'), ('db', 'house')], (('db', 'house'), 7), [(('db', 'lab', 'house'), 'lost'), (('db', 'house'), 'found')]]
>>> [taken_over(host, zone, ("a", "db", "lab", "house")), hidden(host, zone, ("a", "db", "lab", "house"))]
[[('db',), ('a', 'db'), ('a', 'db', 'lab')], [('db',)]]
""",
    "shorts": """
>>> from listnames.shorts import ending, longer, only, over, ray
>>> dead = ray(("a", "b"))
>>> [list(dead.members(3, ["a", "b"])), dead.count(40, ["a", "b"]), len(dead), dead.labels()]
[[('b',), ('a', 'b'), ('b', 'a', 'b')], 1, 4, ['a', 'b']]
>>> [(~ending(("b",))).least(), (dead & longer(1)).least(), (ray(("a",)) & dead).longest()]
[('a',), ('a', 'b'), 0]
>>> [(dead + ("c",)) // ("c",) == dead, (ray(("a", "b", "a")) & ray(("b", "a"))).longest()]
[True, 3]
""",
    "rows and patterns": """
>>> from listnames.facts import Facts
>>> from listnames.hosts import Host
>>> from listnames.patterns import patterns, stays
>>> from listnames.rows import answers, reduced
>>> from listnames.shorts import ray
>>> host, plain = Host([("house",), ("lab", "house")], stops=True), Facts([], [])
>>> [reduced(host, plain, ("db",)), reduced(host, plain, ("lab", "lab"))]
[[('db', 'house'), ('db', 'lab', 'house')], [('lab', 'lab', 'house')]]
>>> [stays(host, plain, 1) == ~ray(("lab",)), patterns(host, plain)[0][0], patterns(host, plain)[1][0]]
[True, (0,), (0, 1)]
>>> answers(host, Facts([("x", "db", "house")], [("lab", "house")]), ("db",))
[('db', 'house'), None]
""",
    "agree and needs": """
>>> from listnames.agree import agreed, are_alike, parting, rays_agreed
>>> from listnames.facts import Facts
>>> from listnames.hosts import Host
>>> from listnames.needs import least_host, needed
>>> from listnames.shorts import every, longer, ray
>>> one, other, plain = Host([("x",), ("y", "x")], stops=True), Host([("x",)], stops=True), Facts([], [])
>>> [agreed(one, other, plain) == ray(("y",)), rays_agreed(one, other), parting(one, other, plain, every())[0]]
[True, [('y',)], ('a',)]
>>> [needed(one, plain, every()), needed(one, plain, ray(("y",))), least_host(one, plain, ray(("y",))) == other]
[[(0, ('a',)), (1, ('a',))], [(0, ('y',))], True]
""",
    "nets": """
>>> from listnames.hosts import Host
>>> from listnames.nets import Net
>>> from listnames.towns import Town
>>> from listnames.zones import Zone
>>> near = (60, 10, {(): 1, ("lab",): None})
>>> town = Town([near, (100, 20, {(): None})], [(Host([("house",), ("lab",)]), 0)])
>>> [town.road(0, ("db", "house")), town.ages(0, ("db", "house")), town.ages(0, ("db", "lab"))]
[[0, 1], (160, 30), (60, 10)]
>>> net = Net(Zone({}), town)
>>> [net.step(("ask", 1, ("db", "house"))), net.step(("wait", 20)), net.step(("put", ("db", "house"), 5)), net.step(("short", 0, ("db",)))]
[('lost', None), None, None, None]
>>> [net.step(("wait", 10)), net.step(("short", 0, ("db",))), net.step(("wait", 1)), net.step(("short", 0, ("db",)))]
[None, None, None, (('db', 'house'), 5)]
""",
    "strange": """
>>> from listnames.histories import History
>>> from listnames.hosts import Host
>>> from listnames.scripts import played
>>> from listnames.strange import stale, strange
>>> from listnames.towns import Town
>>> from listnames.windows import told
>>> from listnames.zones import Zone
>>> town = Town([(0, 5, {(): None})], [(Host([("lab",), ("house",)]), 0)])
>>> moved = History(Zone({("db", "house"): 1}), [(10, ("put", ("db", "lab"), 2)), (12, ("take", ("db", "house")))])
>>> [told(town, 0, moved, ("db",), 9), told(town, 0, moved, ("db",), 11), told(town, 0, moved, ("db",), 13)]
[[(('db', 'house'), 1)], [(('db', 'house'), 1), (('db', 'lab'), 2)], [(('db', 'lab'), 2), None]]
>>> [strange(town, 0, moved, ("db",)), stale(town, 0, moved, ("db",)), played(town, 0, moved, [(9, 0, ("db", "lab"))], ("db",), 12)]
[(12, None), [(10, 14)], None]
""",
    "waits and keeps": """
>>> from listnames.hosts import Host
>>> from listnames.keeps import greatest_keep
>>> from listnames.plans import Plan, honest
>>> from listnames.towns import Town
>>> from listnames.waits import least_times, waits_paper
>>> from listnames.zones import Zone
>>> town = Town([(60, 300, {(): None})], [(Host([("lab",), ("house",)]), 0)])
>>> move = Plan(Zone({("db", "house"): 1}), [("put", ("db", "lab"), 1), ("take", ("db", "house"))])
>>> demand = honest(move, town, 0, ("db",))
>>> [demand, least_times(town, move, [demand])]
[(0, 0, ('db',), [(('db', 'house'), 1), (('db', 'lab'), 1)]), [0, 300]]
>>> [waits_paper(town, move, [demand])[0][:3], greatest_keep(town, move, [demand], [0, 450], 0, "lost")]
[(2, 0, None), 450]
""",
}


class TestExamples(unittest.TestCase):

    def test_examples(self):
        for name, text in EXAMPLES.items():
            test = doctest.DocTestParser().get_doctest(text, {}, name, None, 0)
            found = doctest.DocTestRunner(verbose=False).run(test)
            self.assertEqual((name, found.failed), (name, 0))
            self.assertEqual(found.attempted, text.count(">>>"))

    def test_seven(self):
        self.assertEqual([len(EXAMPLES), sum(text.count(">>>") for text in EXAMPLES.values())], [7, 61])
