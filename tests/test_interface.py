"""The interface of the files that there are: names, arguments, and where each thing is defined."""

import importlib
import inspect
import unittest

FUNCTIONS = {
    "kinds": ["is_integer(thing)", "is_label(thing)", "is_name(thing)", "is_full(thing)", "is_value(thing)",
              "is_moment(thing)", "is_number(many, thing)"],
    "names": ["is_under(name, top)", "is_beneath(name, top)", "tops(name)", "ray_end(name, many)", "root(name)",
              "least_label(names)"],
    "hosts": ["devolved(name, least)"],
    "changes": ["who_can(host, name)", "taken_over(host, zone, name)", "hidden(host, zone, name)"],
    "shorts": ["every()", "only(names)", "ending(name)", "ray(name)", "longer(many)", "over(labels)"],
    "rows": ["reduced(host, facts, short)", "answers(host, facts, short)", "zone_for(host, facts, short, name)"],
    "patterns": ["stays(host, facts, entry)", "patterns(host, facts)"],
    "agree": ["agreed(one, other, facts)", "are_alike(one, other, facts, typed)", "parting(one, other, facts, typed)",
              "is_parting(one, other, facts, typed, thing)", "rays_agreed(one, other)"],
    "needs": ["needed(host, facts, typed)", "least_host(host, facts, typed)",
              "is_needed_paper(host, facts, typed, thing)"],
    "bars": ["bars(one, other, facts, typed, names)", "bars_paper(one, other, facts, typed, names)",
             "is_bars_paper(one, other, facts, typed, names, goods, bads)"],
    "windows": ["window(town, house, history, name, moment)", "told(town, house, history, short, moment)",
                "settled(town, house, history, short)"],
    "scripts": ["played(town, house, history, askings, short, moment)",
                "askings_for(town, house, history, short, moment, answer)",
                "is_askings_for(town, house, history, short, moment, answer, thing)"],
    "strange": ["strange(town, house, history, short)", "strange_short(town, house, history)",
                "stale(town, house, history, short)"],
    "plans": ["is_demand(town, thing)", "honest(plan, town, house, short)"],
    "waits": ["keeps(town, plan, demands, times)", "harm(town, plan, demands, times)", "least_times(town, plan, demands)",
              "waits_paper(town, plan, demands)", "is_waits_paper(town, plan, demands, times, thing)"],
    "keeps": ["greatest_keep(town, plan, demands, times, keeper, kind)", "greatest_keeps(town, plan, demands, times)"],
    "notation": ["show_name(name)", "show_host(host)", "show_zone(zone)", "show_change(change)", "show_demand(demand)",
                 "show_town(town)", "read_name(text)", "read_host(text)", "read_zone(text)", "read_change(text)",
                 "read_demand(text)", "read_town(text)"],
}
CLASSES = {
    ("zones", "Zone(values)"): ["take(name)", "names()", "under(top)", "state(name)", "copied()"],
    ("hosts", "Host(suffixes, *, dots=None, stops=False)"): [
        "suffixes()", "candidates(short)", "entries(short)", "looked(zone, short)", "with_suffixes(suffixes)"],
    ("facts", "Facts(sure, barred)"): ["sure()", "barred()", "fits(zone)", "can_be(name)", "must_be(name)", "zone()",
                                       "with_barred(names)"],
    ("shorts", "Shorts"): ["labels()", "least()", "longest()", "count(many, labels)", "members(many, labels)",
                           "within(other)", "missing(other)"],
    ("towns", "Town(keepers, houses)"): ["keepers()", "houses()", "host(house)", "road(house, name)", "ages(house, name)",
                                         "with_keep(keeper, kind, number)"],
    ("histories", "History(zone, changes)"): ["changes()", "zone_at(moment)", "spans(name)", "then(moment, change)"],
    ("nets", "Net(zone, town, *, moment=0)"): ["step(thing)", "back()", "moment()", "zone()", "history()", "run()",
                                               "kept()", "asked(keeper, name)", "copied()"],
    ("plans", "Plan(zone, changes)"): ["changes()", "zone_behind(many)", "history(times)"],
    ("book", "Book(town, plan)"): ["do(deed)", "back()", "again()", "plan()", "demands()", "times()", "log()", "until(many)",
                                   "copied()", "tried(deeds)", "block(act)"],
    ("desk", "Desk(town, plan)"): ["execute(line)"],
}
SIGNS = {
    ("zones", "Zone"): "eq len contains getitem setitem or and sub ior",
    ("hosts", "Host"): "eq len contains getitem call",
    ("shorts", "Shorts"): "eq contains len bool and or sub xor invert floordiv add",
    ("facts", "Facts"): "eq",
    ("towns", "Town"): "eq",
    ("histories", "History"): "eq len",
    ("nets", "Net"): "eq len",
    ("plans", "Plan"): "eq len",
    ("book", "Book"): "eq len getitem setitem",
}


def module(name):
    return importlib.import_module("listnames." + name)


def written(name, thing, left_out=()):
    """A name with its arguments, as the document writes them."""
    given = inspect.signature(thing)
    kept = [one for one in given.parameters.values() if one.name not in left_out]
    return name + str(given.replace(parameters=kept))


class TestInterface(unittest.TestCase):

    def test_functions(self):
        for name, lines in FUNCTIONS.items():
            for line in lines:
                word = line.partition("(")[0]
                thing = getattr(module(name), word)
                self.assertEqual(written(word, thing), line)
                self.assertEqual(thing.__module__, "listnames." + name)

    def test_classes(self):
        for (name, line), methods in CLASSES.items():
            word = line.partition("(")[0]
            thing = getattr(module(name), word)
            self.assertEqual(thing.__module__, "listnames." + name)
            if "(" in line:
                self.assertEqual(written(word, thing), line)
            for method in methods:
                key = method.partition("(")[0]
                self.assertEqual(written(key, vars(thing)[key], ["self"]), method)

    def test_signs(self):
        for (name, word), signs in SIGNS.items():
            for sign in signs.split():
                self.assertIn(f"__{sign}__", vars(getattr(module(name), word)))
