"""Stage 13: what is as meant, meant snapshots, local certificates and faults, certificates."""

import inspect
import itertools
import unittest
from collections import Counter
from unittest import mock

from shelfroutes.check import local as local_module
from shelfroutes.check.histories import is_counterexample
from shelfroutes.check.invariants import Reach, counterexample_of, is_invariant
from shelfroutes.check.local import (certificate_of, fault_of, is_certificate, is_fault, is_local, is_meant,
                                     is_right_scheme, local_of, meant_snapshots)
from shelfroutes.check.snapshots import events_at, is_right, is_snapshot, snapshot_after
from shelfroutes.check.uses import is_closed, used
from shelfroutes.errors import InvalidOperation, InvalidScheme, InvalidSnapshot, TooMany
from shelfroutes.plan.plans import Plan
from shelfroutes.plan.schemes import Scheme
from shelfroutes.text.texts import read_scheme
from tests.draws import SIDES, draw_query, draw_scheme, rng_of, subset
from tests.dressed import draw_dressed
from tests.more_shops import crowded, lazy_one, split
from tests.shop import CHAIN_TEXT, lost, shop
from tests.test_invariants import draw_path
from tests.values import everything, those_not

EARLY = ("flat", ("in", "out", "out"), (1, 0, 0, 0), (), ((None, ()),))
FLAT, WIDE = ("nb", "sb", "sc", "si", "so"), ("nb", "sb", "sc", "sco", "si", "so")


def drawn(many, label="local", most_core=2, share=4):
    for seed in range(many):
        rng = rng_of(label, seed)

        def query():
            return draw_query(rng, most_core=most_core, sides=SIDES[seed % 8])
        if seed % share == 0:
            yield draw_scheme(rng, query())
        else:
            yield draw_dressed(rng, query, spoilt=seed % 3, plans=1 + seed % 3)


def told_meant(scheme, name, snapshot):
    """Point 13.1."""
    query, entry = scheme.query, scheme.stores[name]
    plan, states, copies, loaded, sides = snapshot
    there = {role for role, state in zip(query.core, states) if state == "in"}
    listings = dict(zip(query.sides, sides))
    core_stores = [other for other in sorted(scheme.stores) if scheme.stores[other][0] in ("plain", "lazy")
                   and scheme.stores[other][1][0] in query.core]
    lazy = [other for other in sorted(scheme.stores) if scheme.stores[other][0] == "lazy"]
    if name in core_stores:
        is_open = name not in lazy or loaded[lazy.index(name)]
        return copies[core_stores.index(name)] == (1 if set(entry[1]) <= there and is_open else 0)
    if entry[0] == "plain":
        side, = entry[1]
        own = [other for other in sorted(scheme.stores) if scheme.stores[other] == entry]
        return all(row[1][own.index(name)] == (1 if row[0] else 0) for row in listings[side][1])
    if not set(query.ties(entry[1])) <= there:
        return True
    flag, rows = listings[entry[1]]
    if entry[0] == "flag":
        return flag is any(row[0] for row in rows)
    return all(row[2] is row[0] for row in rows)


def told_number(scheme):
    lazy = [name for name in scheme.stores if scheme.stores[name][0] == "lazy"]
    return len(scheme.reached) * 3 ** len(scheme.query.core) * 2 ** len(lazy) * 3 ** len(scheme.query.sides)


def told_meant_snapshots(scheme, uses):
    """Point 13.2: of all snapshots with such rows those that are meant."""
    query, stores = scheme.query, scheme.stores
    core_stores = [name for name in sorted(stores) if stores[name][0] in ("plain", "lazy") and stores[name][1][0] in query.core]
    lazy = [name for name in sorted(stores) if stores[name][0] == "lazy"]
    found = []
    listings = []
    for side in query.sides:
        own = [name for name in stores if stores[name] == ("plain", (side,))]
        flags = (False, True) if ("flag", side) in stores.values() else (None,)
        triples = [(True, held, is_counted) for held in itertools.product((0, 1), repeat=len(own))
                   for is_counted in ((False,) if flags != (None,) else (False, True))]
        listings.append([(flag, rows) for flag in flags for many in range(3)
                         for rows in itertools.combinations_with_replacement(triples, many)])
    for plan in scheme.reached:
        for states in itertools.product(("gone", "in", "out"), repeat=len(query.core)):
            for copies in itertools.product((0, 1), repeat=len(core_stores)):
                for loaded in itertools.product((False, True), repeat=len(lazy)):
                    for sides in itertools.product(*listings):
                        found.append((plan, states, copies, loaded, sides))
    return [snapshot for snapshot in found if told_is_meant_for(scheme, uses, snapshot, core_stores)]


def told_is_meant_for(scheme, uses, snapshot, core_stores):
    plan, states, copies, _, sides = snapshot
    names, query = uses[plan], scheme.query
    if not all(told_meant(scheme, name, snapshot) for name in names):
        return False
    for name, many in zip(core_stores, copies):
        if many and name not in names:
            return False
    there = {role for role, state in zip(query.core, states) if state == "in"}
    for side, (flag, rows) in zip(query.sides, sides):
        own = [name for name in sorted(scheme.stores) if scheme.stores[name] == ("plain", (side,))]
        counter, = [name for name in scheme.stores if scheme.stores[name] in (("counter", side), ("flag", side))]
        is_told = counter in names and set(query.ties(side)) <= there
        if not is_told and (flag or any(row[2] for row in rows)):
            return False
        if any(many and name not in names for row in rows for name, many in zip(own, row[1])):
            return False
    return True


def told_keeps(scheme, uses, snapshot, event):
    if not is_right(scheme, snapshot, event):
        return False
    behind = snapshot_after(scheme, snapshot, event)
    return all(told_meant(scheme, name, behind) for name in uses[behind[0]])


def told_faults(scheme, uses):
    return [(snapshot, event) for snapshot in meant_snapshots(scheme, uses) for event in events_at(scheme, snapshot)
            if not told_keeps(scheme, uses, snapshot, event)]


class Interface(unittest.TestCase):
    def test_where_all_is_defined(self):
        for made in (is_meant, meant_snapshots, local_of, is_local, fault_of, is_fault, certificate_of, is_certificate,
                     is_right_scheme):
            self.assertEqual(made.__module__, "shelfroutes.check.local")
        self.assertTrue(inspect.isgeneratorfunction(meant_snapshots))

    def test_example(self):
        self.assertEqual(local_of(shop()), ("local", (("flat", FLAT), ("wide", WIDE))))
        self.assertEqual([is_fault(lost(), (EARLY, ("add", "o"))), is_fault(shop(), (EARLY, ("add", "o"))),
                          local_of(lost()), certificate_of(lost())[0]], [True, False, None, "counterexample"])


class Meant(unittest.TestCase):
    def test_against_a_second_reckoning(self):
        seen = Counter()
        for seed, scheme in enumerate(drawn(100, "meant")):
            rng = rng_of("meant path", seed)
            _, snapshots = draw_path(rng, scheme, 15)
            for snapshot in snapshots:
                told = {name: told_meant(scheme, name, snapshot) for name in scheme.stores}
                for name in told:
                    self.assertIs(is_meant(scheme, (name,), snapshot), told[name])
                    seen[scheme.stores[name][0], told[name]] += 1
                names = subset(rng, scheme.stores)
                self.assertIs(is_meant(scheme, names, snapshot), all(told[name] for name in names))
        for kind in ("plain", "lazy", "counter", "flag"):
            self.assertGreater(min(seen[kind, True], seen[kind, False]), 5, seen)

    def test_edges(self):
        def meant(names, snapshot):
            return is_meant(shop(), names, snapshot)
        two = ("flat", ("in", "in", "in"), (2, 1, 1, 1), (), ((None, ()),))
        self.assertEqual([meant(("sc",), two), meant(("sco",), two), meant((), two)], [False, True, True])
        for held, told in ((0, False), (1, True), (2, False)):
            row = ("flat", ("out", "in", "in"), (0, 0, 1, 1), (), ((None, ((True, (held,), False),)),))
            self.assertEqual([meant(("sb",), row), meant(("nb",), row)], [told, True])
        for is_in in (False, True):
            for is_counted in (False, True):
                row = ("flat", ("in", "in", "in"), (0, 0, 1, 1), (), ((None, ((is_in, (1,), is_counted),)),))
                self.assertEqual([meant(("nb",), row), meant(("sb",), row)], [is_in == is_counted, is_in])
        for state, loaded, many, told in (
                ("out", False, 0, True), ("out", False, 1, False), ("out", True, 1, False), ("out", True, 0, True),
                ("in", False, 0, True), ("in", False, 1, False), ("in", True, 1, True), ("in", True, 0, False), ("in", True, 2, False)):
            snapshot = ("flat", ("in", state, "in", "in"), (many, 1, 0, 0, 1, 1), (loaded,), ())
            self.assertIs(is_meant(lazy_one(), ("lcio",), snapshot), told)

    def test_errors(self):
        for value in those_not(lambda value: isinstance(value, Scheme)):
            for names, snapshot in (((), EARLY), (None, None)):
                with self.assertRaises(InvalidScheme):
                    is_meant(value, names, snapshot)
        for value in those_not(lambda value: value == ()) + [["sc"], ("so", "sc"), ("sc", "sc"), ("sc", "zz"), ("flat",)]:
            for snapshot in (EARLY, None):
                with self.assertRaises(InvalidOperation):
                    is_meant(shop(), value, snapshot)
        for value in those_not(lambda value: is_snapshot(shop(), value)) + [list(EARLY), EARLY[:4], ("late",) + EARLY[1:]]:
            with self.assertRaises(InvalidSnapshot):
                is_meant(shop(), ("sc",), value)


class Snapshots(unittest.TestCase):
    def test_against_a_second_reckoning(self):
        looked_at = Counter()
        for seed, scheme in enumerate(drawn(90, "meant snapshots")):
            rng = rng_of("uses", seed)
            if len(scheme.stores) > 7 or told_number(scheme) > 200:
                continue
            for uses in (used(scheme), {plan: subset(rng, scheme.stores) for plan in scheme.reached}):
                told = told_meant_snapshots(scheme, uses)
                self.assertEqual(list(meant_snapshots(scheme, uses)), sorted(told))
                self.assertEqual(len(told), told_number(scheme))
                for entry in scheme.stores.values():
                    looked_at[entry[0]] += 1
        self.assertTrue(min(looked_at[kind] for kind in ("plain", "lazy", "counter", "flag")) > 4, looked_at)

    def test_number(self):
        self.assertEqual(len(list(meant_snapshots(shop(), used(shop())))), 2 * 27 * 3)
        self.assertEqual(len(list(meant_snapshots(lazy_one(), used(lazy_one())))), 2 * 81 * 2)

    def test_order(self):
        """Copies come before loaded keys, and depend on them."""
        query = shop().query.without("b")
        stores = {"la": ("lazy", ("c", "i"), "c", "code", "sc", "si"), "lb": ("lazy", ("c", "o"), "c", "code", "sc", "so"),
                  "sc": ("plain", ("c",)), "si": ("plain", ("i",)), "so": ("plain", ("o",))}
        scheme = Scheme(query, stores=stores, plans={"p": Plan()}, first="p")
        uses = {"p": ("la", "lb", "sc", "si", "so")}
        found = list(meant_snapshots(scheme, uses))
        self.assertEqual(found, sorted(told_meant_snapshots(scheme, uses)))
        self.assertEqual(len(found), 27 * 4)

    def test_limit(self):
        with mock.patch.object(local_module, "MAX_SNAPSHOTS", 162):
            self.assertEqual(len(list(meant_snapshots(shop(), used(shop())))), 162)
            self.assertIs(is_right_scheme(shop()), True)
        good = local_of(shop())
        with mock.patch.object(local_module, "MAX_SNAPSHOTS", 161):
            for value in (good, None, 5, ("local", ())):
                for call in (is_local, is_fault, is_certificate):
                    with self.assertRaises(TooMany):
                        call(shop(), value)
            for call in (local_of, fault_of, certificate_of, is_right_scheme):
                with self.assertRaises(TooMany):
                    call(shop())

    def test_too_many(self):
        for call in (local_of, fault_of, certificate_of, is_right_scheme,
                     lambda scheme: list(meant_snapshots(scheme, {"p": ()}))):
            with self.assertRaises(TooMany) as caught:
                call(crowded())
            self.assertEqual(caught.exception.limit, 20000)

    def test_too_many_reached_snapshots_do_not_matter_with_a_local_certificate(self):
        with mock.patch("shelfroutes.check.invariants.MAX_SNAPSHOTS", 5):
            self.assertIs(is_right_scheme(shop()), True)
            self.assertEqual(certificate_of(shop()), local_of(shop()))
            for scheme in (lost(), split()):
                for call in (certificate_of, is_right_scheme):
                    with self.assertRaises(TooMany):
                        call(scheme)
                for value in (None, 5, local_of(shop())):
                    self.assertIs(is_certificate(scheme, value), False)

    def test_errors(self):
        for value in those_not(lambda value: isinstance(value, Scheme)):
            for uses in (used(shop()), None):
                made = meant_snapshots(value, uses)
                with self.assertRaises(InvalidScheme):
                    next(made)
        good = used(shop())
        wrong = [{**good, "flat": value} for value in those_not(lambda value: value == ())]
        wrong += everything() + [{"flat": FLAT}, {**good, "late": ()}, tuple(good.items()), {**good, "flat": FLAT[::-1]}]
        for value in wrong:
            with self.assertRaises(InvalidOperation):
                next(meant_snapshots(shop(), value))
        self.assertEqual(len(list(meant_snapshots(shop(), {"flat": (), "wide": ("sco",)}))), 162)


class Certificates(unittest.TestCase):
    def test_drawn_schemes(self):
        seen = Counter()
        for seed, scheme in enumerate(drawn(140)):
            rng = rng_of("larger", seed)
            if told_number(scheme) > 200:
                continue
            told = told_faults(scheme, used(scheme))
            value, fault = local_of(scheme), fault_of(scheme)
            self.assertEqual(value is None, told != [])
            if told:
                self.assertIn(fault, told)
                self.assertEqual([is_fault(scheme, pair) for pair in told], [True] * len(told))
            else:
                self.assertEqual(value, ("local", tuple(used(scheme).items())))
                self.assertIsNone(fault)
            self.check_other_uses(rng, scheme, value, seen)
            self.check_faults(rng, scheme, told, seen)
            seen["local", value is None] += 1
            for entry in scheme.stores.values():
                seen[entry[0]] += 1
        self.assertTrue(min(seen["local", True], seen["local", False], 2 * seen["lazy"], seen["flag"]) > 10, seen)
        self.assertTrue(min(8 * seen["larger", True], seen["larger", False], seen["closed"]) > 10, seen)

    def check_other_uses(self, rng, scheme, value, seen):
        least = used(scheme)
        for _ in range(3):
            uses = {plan: tuple(sorted(set(least[plan]) | set(subset(rng, scheme.stores)))) for plan in least}
            if rng.random() < 0.3:
                plan = rng.choice(sorted(uses))
                uses[plan] = tuple(name for name in uses[plan] if rng.random() < 0.8)
            told = is_closed(scheme, uses) and told_faults(scheme, uses) == []
            judged = ("local", tuple(sorted(uses.items())))
            self.assertIs(is_local(scheme, judged), told)
            self.assertIs(is_certificate(scheme, judged), told)
            seen["closed"] += is_closed(scheme, uses)
            if uses != least:
                seen["larger", told] += 1

    def check_faults(self, rng, scheme, told, seen):
        """Pairs at any snapshots, most of them not meant ones."""
        snapshots = list(meant_snapshots(scheme, used(scheme)))
        others = draw_path(rng, scheme, 10)[1] + rng.sample(snapshots, min(6, len(snapshots)))
        for snapshot in others:
            for event in events_at(scheme, snapshot):
                is_told = (snapshot, event) in told
                self.assertIs(is_fault(scheme, (snapshot, event)), is_told)
                seen["fault", is_told] += 1

    def test_one_of_each(self):
        """Exactly one of an invariant and a counterexample; a local certificate means the first."""
        seen = Counter()
        for scheme in drawn(80, "one of each", most_core=3):
            try:
                value, reach = local_of(scheme), Reach(scheme)
            except TooMany:
                continue
            wrong = counterexample_of(scheme)
            self.assertEqual(wrong is None, reach.invariant is not None)
            certificate = certificate_of(scheme)
            self.assertIs(is_certificate(scheme, certificate), True)
            self.assertIs(is_right_scheme(scheme), wrong is None)
            if value is not None:
                self.assertIsNone(wrong)
                self.assertEqual(certificate, value)
            elif wrong is None:
                self.assertEqual(certificate[0], "invariant")
                self.assertIs(is_invariant(scheme, certificate), True)
            else:
                self.assertIs(is_counterexample(scheme, certificate), True)
            if scheme.is_single and not scheme.query.sides:
                self.assertNotEqual(value is None, wrong is None)
                seen["single", wrong is None] += 1
            seen[wrong is None] += 1
        self.assertTrue(min(seen.values()) > 4, seen)

    def test_right_but_not_locally(self):
        self.assertIsNone(local_of(split()))
        self.assertEqual(certificate_of(split()), Reach(split()).invariant)
        self.assertIs(is_right_scheme(split()), True)
        self.assertIs(is_certificate(split(), Reach(split()).invariant), True)

    def test_uses_that_are_not_closed(self):
        """A store that is joined but never updated: without it among the uses no event is wrong."""
        text = CHAIN_TEXT.replace("store so o", "store sd c\nstore so o").replace("remove c:", "add o: join sd, emit\nremove c:")
        scheme = read_scheme(text)
        without = {"flat": ("sc", "so")}
        self.assertEqual((told_faults(scheme, without), used(scheme)), ([], {"flat": ("sc", "sd", "so")}))
        for names in (("sc", "so"), ("sc", "sd", "so")):
            self.assertIs(is_local(scheme, ("local", (("flat", names),))), False)
        self.assertIsNone(local_of(scheme))
        self.assertEqual(certificate_of(scheme)[0], "invariant")

    def test_lazy_stores_over_what_is_filled(self):
        for text, told in (("clear lcio, fill sco sc so", True), ("fill sco sc so, clear lcio", True),
                           ("fill sco sc so", False), ("clear lcio", False), ("", False)):
            self.assertEqual(local_of(lazy_one(text)) is not None, told, text)
            self.assertIs(is_right_scheme(lazy_one(text)), told, text)

    def test_values(self):
        scheme = read_scheme(CHAIN_TEXT)
        good = local_of(scheme)
        self.assertEqual(good, ("local", (("flat", ("sc", "so")),)))
        reach = Reach(scheme).invariant
        for value in everything():
            for judged in (value, ("local", value), (value, good[1]), good + (value,), ("local", (value,)),
                           ("local", good[1] + (value,)), ("local", (("flat", value),)), ("local", ((value, ("sc", "so")),)),
                           ("local", (("flat", ("sc", "so"), value),)), ("local", (("flat", ("sc", value)),))):
                for call in (is_local, is_certificate):
                    is_good = repr(judged) == repr(good)
                    self.assertIs(call(scheme, judged), is_good, judged)
        for judged in (list(good), good[:1], good[1:], ("local", list(good[1])), ("local", (["flat", ("sc", "so")],)), ("local", {"flat": ("sc", "so")}),
                       ("local", (("flat", ["sc", "so"]),)), ("local", (("flat", ("so", "sc")),)), ("local", ())):
            self.assertIs(is_local(scheme, judged), False)
        self.assertEqual([is_local(scheme, reach), is_certificate(scheme, reach)], [False, True])
        pairs = local_of(shop())[1]
        for judged, told in (((pairs[1], pairs[0]), False), (pairs + pairs[1:], False), (pairs[:1], False),
                             ((("flat", WIDE), ("wide", WIDE)), False), ((("flat", FLAT), ("wide", FLAT)), False),
                             ((pairs[0], ("wide", WIDE[::-1])), False), ((pairs[0], ("wide", list(WIDE))), False),
                             ((("flat", FLAT[::-1]), pairs[1]), False), ((pairs[0], ("wide",)), False), ((pairs[0], 5), False),
                             ((pairs[0], ("late", WIDE)), False), ((pairs[0], ("wide", WIDE + ("zz",))), False),
                             ((pairs[0], pairs[1] + ((),)), False), ((5, pairs[1]), False), (pairs, True)):
            self.assertIs(is_local(shop(), ("local", judged)), told)

    def test_larger_uses(self):
        """A store that is kept up although nothing asks for it may be among the uses, one that is not may not."""
        text = CHAIN_TEXT.replace("store so o", "store sco c o\nstore so o").replace("join so, emit", "join so, update sco, emit")
        kept = read_scheme(text.replace("join sc, emit", "join sc, update sco, emit"))
        for scheme, told in ((kept, True), (read_scheme(text), False)):
            self.assertIs(is_local(scheme, ("local", (("flat", ("sc", "sco", "so")),))), told)
            self.assertIs(is_local(scheme, ("local", (("flat", ("sc", "so")),))), True)
            self.assertEqual(local_of(scheme), ("local", (("flat", ("sc", "so")),)))

    def test_faults(self):
        good = (EARLY, ("add", "o"))
        for value in everything():
            for judged in (value, (value, good[1]), (good[0], value), good + (value,)):
                self.assertIs(is_fault(lost(), judged), False, judged)
        for judged in (list(good), (list(EARLY), good[1]), (EARLY, ["add", "o"]), (EARLY, ("add", "c")), (EARLY,)):
            self.assertIs(is_fault(lost(), judged), False)
        # What is not used holds nothing in a meant snapshot.
        scheme = shop(transitions={("wide", "flat"): ()})
        kept = ("flat", ("in", "out", "in"), (1, 1, 0, 1), (), ((None, ()),))
        self.assertIs(is_fault(scheme, (kept, ("add", "i"))), False)
        self.assertIs(is_fault(scheme, (("wide",) + kept[1:], ("add", "i"))), False)

    def test_copies_in_lazy_stores_that_are_not_loaded(self):
        """A store whose key is not loaded holds nothing in a meant snapshot."""
        scheme = lazy_one("clear lcio")
        fault = fault_of(scheme)
        self.assertIs(is_fault(scheme, fault), True)
        snapshot = fault[0][:2] + ((1,) + fault[0][2][1:],) + ((False,),) + fault[0][4:]
        self.assertIs(is_fault(scheme, (snapshot, fault[1])), False)

    def test_schemes(self):
        for value in those_not(lambda value: isinstance(value, Scheme)):
            for call in (local_of, fault_of, certificate_of, is_right_scheme):
                with self.assertRaises(InvalidScheme):
                    call(value)
            for call in (is_local, is_fault, is_certificate):
                for judged in (("local", ()), None):
                    with self.assertRaises(InvalidScheme):
                        call(value, judged)


if __name__ == "__main__":
    unittest.main()
