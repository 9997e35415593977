"""Stage 12: what is used, what transitions need, and trails to the output."""

import itertools
import unittest
from collections import Counter

from shelfroutes.check.uses import is_closed, is_trail, needed_before, trail_of, used
from shelfroutes.errors import InvalidOperation, InvalidScheme, UnknownName
from shelfroutes.plan.plans import Plan
from shelfroutes.plan.schemes import Scheme
from tests.draws import SIDES, draw_query, draw_scheme, rng_of, subset
from tests.dressed import draw_dressed
from tests.more_shops import lazy_one, split
from tests.shop import lost, shop, steps
from tests.values import everything, those_not


def told_pipeline_needs(word, pipeline, chosen):
    """Point 12.1 for one pipeline."""
    needs = set()
    for at, step in enumerate(pipeline):
        matters = (step[0] == "emit" or (step[0] in ("count", "recount") and step[1] in chosen)
                   or (step[0] == "update" and step[1] in chosen and word == "add"))
        if matters:
            needs |= {earlier[1] for earlier in pipeline[:at] if earlier[0] in ("join", "some", "none", "count")}
            if step[0] == "recount":
                needs.add(step[2])
    return needs


def told_plan_needs(scheme, name, chosen):
    needs = set()
    for word, role in scheme[name].pairs():
        for pipeline in scheme[name][word, role]:
            needs |= told_pipeline_needs(word, pipeline, chosen)
    for item in chosen:
        if scheme.stores[item][0] == "lazy":
            needs |= set(scheme.stores[item][4:])
    return needs


def put_in(scheme, chosen, items):
    """Choose items; lazy stores bring in their sources, and theirs."""
    for item in items:
        chosen.add(item)
        if scheme.stores[item][0] == "lazy":
            put_in(scheme, chosen, scheme.stores[item][4:])


def told_before(scheme, plan, other, items):
    """Point 12.2."""
    chosen = set()
    put_in(scheme, chosen, items)
    for step in reversed(scheme.transitions[plan, other]):
        if step[1] in chosen:
            if step[0] != "append":
                chosen.remove(step[1])
            put_in(scheme, chosen, step[2:])
    return chosen


def told_needs(scheme, uses):
    """What uses need, at each reached plan."""
    needs = {}
    for name in scheme.reached:
        needs[name] = told_plan_needs(scheme, name, uses[name])
        for one, other in scheme.transitions:
            if one == name:
                needs[name] |= told_before(scheme, one, other, uses[other])
    return needs


def told_used(scheme):
    uses = {name: set() for name in scheme.reached}
    while True:
        needs = told_needs(scheme, uses)
        if all(needs[name] <= uses[name] for name in uses):
            return {name: tuple(sorted(uses[name])) for name in uses}
        uses = {name: uses[name] | needs[name] for name in uses}


def told_links(scheme, plan, item):
    """All links from an item at a plan, with the places to which they lead (None for the output)."""
    found = {}
    for word, role in scheme[plan].pairs():
        for index, pipeline in enumerate(scheme[plan][word, role]):
            if item in told_pipeline_needs(word, pipeline, ()):
                found["emit", word, role, index] = None
            # For a step alone: an emit step is left out.
            rest = pipeline[:-1] if pipeline[-1] == ("emit",) else pipeline
            for other in scheme.stores:
                if item in told_pipeline_needs(word, rest, (other,)):
                    found["pipe", word, role, index, other] = (plan, other)
    for other, entry in scheme.stores.items():
        if entry[0] == "lazy" and item in entry[4:]:
            found["source", other] = (plan, other)
    for one, other in scheme.transitions:
        for last in scheme.stores:
            if one == plan and item in told_before(scheme, one, other, (last,)):
                found["switch", other, last] = (other, last)
    return found


def told_distance(scheme, plan, item):
    """How many links lead to the output at least, or None."""
    layer, seen, many = [(plan, item)], {(plan, item)}, 0
    while layer:
        many += 1
        further = []
        for place in layer:
            for behind in told_links(scheme, *place).values():
                if behind is None:
                    return many
                if behind not in seen:
                    seen.add(behind)
                    further.append(behind)
        layer = further
    return None


def drawn(many, label="uses"):
    for seed in range(many):
        rng = rng_of(label, seed)

        def query():
            return draw_query(rng, sides=SIDES[seed % 8])
        if seed % 2 == 0:
            yield draw_scheme(rng, query())
        else:
            yield draw_dressed(rng, query, spoilt=seed % 4, plans=1 + seed % 3)


class Interface(unittest.TestCase):
    def test_where_all_is_defined(self):
        for made in (used, is_closed, needed_before, trail_of, is_trail):
            self.assertEqual(made.__module__, "shelfroutes.check.uses")

    def test_example(self):
        self.assertEqual([used(shop())["flat"], "sco" in used(shop())["wide"], "sco" in used(lost())["flat"],
                          needed_before(shop(), "flat", "wide", ("sco", "si"))],
                         [("nb", "sb", "sc", "si", "so"), True, True, ("sc", "si", "so")])
        self.assertEqual([trail_of(shop(), "flat", "sco"),
                          is_trail(lost(), "flat", "sco", (("switch", "wide", "sco"), ("emit", "add", "i", 0)))],
                         [None, True])


class Used(unittest.TestCase):
    def test_against_a_second_reckoning(self):
        seen = Counter()
        for scheme in drawn(160):
            told = told_used(scheme)
            self.assertEqual(list(used(scheme).items()), list(told.items()))
            self.assertEqual(list(told), list(scheme.reached))
            for name in told:
                for item in scheme.stores:
                    kind = scheme.stores[item][0]
                    seen[kind, item in told[name]] += 1
        for kind in ("plain", "lazy", "counter", "flag"):
            self.assertGreater(min(seen[kind, True], seen[kind, False]), 3, (kind, seen))

    def test_closed_uses(self):
        seen = Counter()
        for seed, scheme in enumerate(drawn(120, "closed")):
            rng = rng_of("closed uses", seed)
            least = used(scheme)
            self.assertIs(is_closed(scheme, least), True)
            full = {name: tuple(sorted(scheme.stores)) for name in scheme.reached}
            self.assertIs(is_closed(scheme, full), True)
            for _ in range(8):
                uses = {name: tuple(sorted(set(least[name]) | set(subset(rng, scheme.stores)))) for name in least}
                if rng.random() < 0.5:
                    name = rng.choice(sorted(uses))
                    uses[name] = tuple(item for item in uses[name] if rng.random() < 0.8)
                needs = told_needs(scheme, uses)
                told = all(needs[name] <= set(uses[name]) for name in uses)
                self.assertIs(is_closed(scheme, uses), told)
                seen[told] += 1
        self.assertGreater(min(seen.values()), 100)

    def test_the_least_are_within_all_closed_ones(self):
        """All subsets are tried, for schemes with one plan that is reached."""
        looked_at = 0
        for scheme in drawn(100, "subsets"):
            if len(scheme.reached) == 1 and len(scheme.stores) <= 7:
                name, = scheme.reached
                closed = [set(items) for many in range(8) for items in itertools.combinations(scheme.stores, many)
                          if is_closed(scheme, {name: tuple(sorted(items))})]
                self.assertEqual(set(used(scheme)[name]), set.intersection(*closed))
                looked_at += 1
        self.assertGreater(looked_at, 15)

    def test_plans_that_are_not_reached(self):
        scheme = shop(transitions={("wide", "flat"): ()}, first="flat")
        self.assertEqual(list(used(scheme)), ["flat"])
        self.assertIs(is_closed(scheme, used(shop())), False)
        self.assertIs(is_closed(shop(), used(scheme)), False)

    def test_forms(self):
        good = used(shop())
        for value in everything():
            self.assertIs(is_closed(shop(), value), False)
            self.assertIs(is_closed(shop(), {**good, "flat": value}), False)
            self.assertIs(is_closed(shop(), {"flat": good["flat"], "wider": good["wide"]}), False)
        for key in ("", 1, None, ("flat",), "late"):
            self.assertIs(is_closed(shop(), {**good, key: ()}), False)
        for flat in (good["flat"][::-1], list(good["flat"]), good["flat"] + ("zz",), good["flat"] + ("so",),
                     good["flat"][1:], ()):
            self.assertIs(is_closed(shop(), {**good, "flat": flat}), False)
        self.assertIs(is_closed(shop(), dict(reversed(good.items()))), True)
        self.assertIs(is_closed(shop(), tuple(good.items())), False)

    def test_schemes(self):
        for value in those_not(lambda value: isinstance(value, Scheme)):
            with self.assertRaises(InvalidScheme):
                used(value)
            for other in (None, {}):
                with self.assertRaises(InvalidScheme):
                    is_closed(value, other)


class Before(unittest.TestCase):
    def test_against_a_second_reckoning(self):
        seen = Counter()
        for seed, scheme in enumerate(drawn(200, "before")):
            rng = rng_of("items", seed)
            for plan, other in scheme.transitions:
                for _ in range(4):
                    items = subset(rng, scheme.stores)
                    told = tuple(sorted(told_before(scheme, plan, other, items)))
                    self.assertEqual(needed_before(scheme, plan, other, items), told)
                    for step in scheme.steps_of(plan, other):
                        seen[step[0], step[1] in items] += 1
        for word in ("fill", "append", "clear", "recount", "reset"):
            self.assertGreater(min(seen[word, True], seen[word, False]), 5, (word, seen))

    def test_each_step(self):
        def before(text, items):
            scheme = shop(transitions={("flat", "wide"): steps(text)})
            return needed_before(scheme, "flat", "wide", items)
        self.assertEqual(before("fill sco sc so", ("sco",)), ("sc", "so"))
        self.assertEqual(before("append sco sc so", ("sco",)), ("sc", "sco", "so"))
        self.assertEqual(before("clear sco", ("sb", "sco")), ("sb",))
        self.assertEqual(before("recount nb sc sb", ("nb",)), ("sb", "sc"))
        self.assertEqual(before("reset nb", ("nb", "si")), ("si",))
        for text in ("fill sco sc so", "append sco sc so", "clear sco", "recount nb sc sb", "reset nb"):
            self.assertEqual(before(text, ("sb", "si")), ("sb", "si"))
            self.assertEqual(before(text, ()), ())
        self.assertEqual(before("clear sc, fill sco sc so", ("sco",)), ("so",))
        self.assertEqual(before("fill sco sc so, clear sc", ("sco",)), ("sc", "so"))

    def test_lazy_stores(self):
        """They bring in their sources when they are chosen: what is filled behind this is not needed before."""
        self.assertEqual(needed_before(lazy_one(), "lazy", "flat", ("lcio",)), ("lcio", "sco", "si"))
        for text, told in (("clear lcio, fill sco sc so", ("sc", "si", "so")), ("fill sco sc so, clear lcio", ("sc", "si", "so")),
                           ("fill sco sc so", ("lcio", "sc", "si", "so")), ("clear sco", ("lcio", "si")),
                           ("clear lcio", ("sco", "si")), ("", ("lcio", "sco", "si"))):
            self.assertEqual(needed_before(lazy_one(text), "flat", "lazy", ("lcio",)), told, text)
        self.assertEqual(used(lazy_one())["flat"], ("sc", "si", "so", "sz"))
        self.assertEqual(used(lazy_one("fill sco sc so"))["flat"], ("lcio", "sc", "sco", "si", "so", "sz"))

    def test_a_lazy_store_on_the_way(self):
        scheme = lazy_one()
        stores = {**scheme.stores, "sall": ("plain", ("c", "i", "o", "z"))}
        nothing = Plan()
        for text, told in (("fill sall lcio sz", ("lcio", "sco", "si", "sz")),
                           ("fill sall lcio sz, fill sco sc so", ("lcio", "sco", "si", "sz")),
                           ("clear lcio, fill sall lcio sz", ("sco", "si", "sz")),
                           ("fill sco sc so, fill sall lcio sz", ("lcio", "sc", "si", "so", "sz"))):
            made = Scheme(scheme.query, stores=stores, plans={"a": nothing, "b": nothing},
                          transitions={("a", "b"): steps(text)}, first="a")
            self.assertEqual(needed_before(made, "a", "b", ("sall",)), told)
            both = tuple(sorted(set(told) | set(needed_before(made, "a", "b", ("lcio",)))))
            self.assertEqual(needed_before(made, "a", "b", ("lcio", "sall")), both)

    def test_errors(self):
        for value in those_not(lambda value: isinstance(value, Scheme)):
            for plan in ("flat", None):
                with self.assertRaises(InvalidScheme):
                    needed_before(value, plan, None, None)
        for value in those_not(lambda value: value in ("flat", "wide")):
            for args in ((value, "wide", ()), (value, None, None), ("flat", value, ()), ("flat", value, None)):
                with self.assertRaises(UnknownName) as caught:
                    needed_before(shop(), *args)
                self.assertIs(caught.exception.name, value)
        for value in those_not(lambda value: value == ()) + [("si", "sc"), ("sc", "sc"), ["sc"], ("sc", "zz"), ("flat",)]:
            for plan in ("flat", "wide"):
                with self.assertRaises(InvalidOperation):
                    needed_before(shop(), "flat", plan, value)
        with self.assertRaises(InvalidOperation):
            needed_before(shop(), "flat", "flat", ())
        self.assertEqual(needed_before(shop(), "flat", "wide", ()), ())


class Trails(unittest.TestCase):
    def test_against_a_second_reckoning(self):
        lengths = Counter()
        for scheme in drawn(60, "trails"):
            uses = told_used(scheme)
            for plan in scheme.reached:
                for item in scheme.stores:
                    trail = trail_of(scheme, plan, item)
                    self.assertEqual(trail is not None, item in uses[plan])
                    distance = told_distance(scheme, plan, item)
                    self.assertEqual(None if trail is None else len(trail), distance)
                    lengths[distance] += 1
                    if trail is not None:
                        self.check_trail(scheme, plan, item, trail)
        self.assertTrue(min(lengths[None], lengths[1], lengths[2]) > 10, lengths)

    def test_a_long_trail(self):
        flat, wide = shop()["flat"], shop()["wide"]
        scheme = shop(plans={"a": flat, "b": flat, "c": flat, "d": flat, "wide": wide}, first="a",
                      transitions={("a", "b"): (), ("b", "c"): (), ("c", "d"): (), ("d", "c"): (), ("d", "wide"): ()})
        for at, many in (("a", 5), ("b", 4), ("c", 3), ("d", 2), ("wide", 1)):
            trail = trail_of(scheme, at, "sco")
            self.assertEqual((len(trail), told_distance(scheme, at, "sco")), (many, many))
            self.check_trail(scheme, at, "sco", trail)
        for item in ("sc", "si", "so", "nb"):
            self.assertEqual(len(trail_of(scheme, "a", item)), 1)
        self.assertEqual(trail_of(scheme, "a", "sb"), (("pipe", "add", "c", 0, "nb"), trail_of(scheme, "a", "nb")[0]))

    def check_trail(self, scheme, plan, item, trail):
        self.assertIs(is_trail(scheme, plan, item, trail), True)
        place = (plan, item)
        for link in trail:
            place = told_links(scheme, *place)[link]
        self.assertIsNone(place)
        for at in range(len(trail)):
            self.assertIs(is_trail(scheme, plan, item, trail[:at]), False)
        self.assertIs(is_trail(scheme, plan, item, trail + trail[-1:]), False)

    def test_each_link(self):
        """Every link that could be told is tried, with a trail of its next item behind it."""
        seen = Counter()
        for scheme in drawn(24, "links"):
            for plan in scheme.reached[:2]:
                for item in scheme.stores:
                    told = told_links(scheme, plan, item)
                    for link in self.all_links(scheme, plan):
                        rest, is_there = (), link[0] == "emit"
                        if not is_there:
                            at = link[1] if link[0] == "switch" else plan
                            rest = trail_of(scheme, at, link[-1]) if at in scheme.reached else None
                            is_there = rest is not None
                        if is_there:
                            self.assertIs(is_trail(scheme, plan, item, (link,) + rest), link in told, (link, item))
                            seen[link[0], link in told] += 1
        for word in ("emit", "pipe", "source", "switch"):
            self.assertGreater(min(seen[word, True], seen[word, False]), 5, seen)

    def all_links(self, scheme, plan):
        for word, role in scheme[plan].pairs():
            for index in range(len(scheme[plan][word, role]) + 1):
                yield ("emit", word, role, index)
                for item in scheme.stores:
                    yield ("pipe", word, role, index, item)
        for item in scheme.stores:
            yield ("source", item)
            for other in scheme.plans:
                yield ("switch", other, item)

    def test_a_long_way_round(self):
        trail = (("switch", "wide", "sco"),) + (("switch", "flat", "sco"), ("switch", "wide", "sco")) * 300
        self.assertIs(is_trail(lost(), "flat", "sco", trail + (("emit", "add", "i", 0),)), True)
        self.assertIs(is_trail(shop(), "flat", "sco", trail + (("emit", "add", "i", 0),)), False)

    def test_values(self):
        good = (("switch", "wide", "sco"), ("emit", "add", "i", 0))
        for value in everything():
            for judged in (value, (value,), good + (value,), (value, good[1]), (good[0], value),
                           (good[0], ("emit", "add", "i", value)), (good[0], ("emit", value, "i", 0)),
                           (("switch", value, "sco"), good[1]), (("switch", "wide", value), good[1])):
                if repr(judged) != repr(good):
                    self.assertIs(is_trail(lost(), "flat", "sco", judged), False, judged)
        for judged in (list(good), (list(good[0]), good[1]), good[:1], good[1:], (), good + good[1:],
                       (good[0], ("emit", "add", "i", False)), (good[0], ("emit", "add", "i", 1)),
                       (good[0], ("emit", "add", "i", -1)), (good[0], ("emit", "add", "i"))):
            self.assertIs(is_trail(lost(), "flat", "sco", judged), False, judged)

    def test_errors(self):
        def judged(scheme, plan, item):
            return is_trail(scheme, plan, item, ())
        unreached = shop(transitions={("wide", "flat"): ()}, first="flat")
        for call in (trail_of, judged):
            for value in those_not(lambda value: isinstance(value, Scheme)):
                for plan, item in (("flat", "sc"), (None, None)):
                    with self.assertRaises(InvalidScheme):
                        call(value, plan, item)
            for value in those_not(lambda value: value == "flat"):
                for item in ("sc", None):
                    with self.assertRaises(UnknownName) as caught:
                        call(unreached, value, item)
                    self.assertIs(caught.exception.name, value)
                with self.assertRaises(UnknownName) as caught:
                    call(shop(), "flat", value)
                self.assertIs(caught.exception.name, value)
            with self.assertRaises(UnknownName) as caught:
                call(unreached, "wide", "sc")
            self.assertEqual(caught.exception.name, "wide")

    def test_split_stores(self):
        """A store that only another plan updates is used, as its rows are joined here."""
        self.assertEqual(used(split()), {"p": ("sa", "sb", "so"), "q": ("sa", "sb", "so")})
        self.assertEqual(trail_of(split(), "p", "sb"), (("emit", "add", "o", 1),))


if __name__ == "__main__":
    unittest.main()
