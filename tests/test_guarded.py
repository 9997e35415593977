"""Guarded engines, and snapshots of theirs."""

import inspect
import itertools
import unittest
from collections import Counter
from unittest import mock

from shelfroutes.check.histories import is_counterexample
from shelfroutes.check.invariants import Reach
from shelfroutes.check.local import is_certificate, local_of
from shelfroutes.check.snapshots import due_at, events_at, is_right, is_snapshot, snapshot_of
from shelfroutes.errors import (InvalidEvent, InvalidOperation, InvalidRow, InvalidScheme, NothingToUndo, TooMany,
                                UnknownKey, UnknownName, Wrong)
from shelfroutes.plan.plans import Plan
from shelfroutes.plan.schemes import Scheme
from shelfroutes.query.queries import Query
from shelfroutes.run.engine import Engine
from shelfroutes.run.guarded import Guard, GuardedEngine
from tests import plain
from tests.draws import SIDES, draw_event, draw_query, rng_of
from tests.dressed import draw_dressed
from tests.more_shops import crowded, lazy_one, split
from tests.shop import lost, shop, steps
from tests.values import everything, those_not


def drawn(many, label="guarded"):
    for seed in range(many):
        rng = rng_of(label, seed)
        scheme = draw_dressed(rng, lambda: draw_query(rng, most_core=2 + seed % 2, sides=SIDES[seed % 8]),
                              spoilt=seed % 2, plans=1 + seed % 3)
        yield rng, scheme


class Interface(unittest.TestCase):
    def test_where_all_is_defined(self):
        for made in (Guard, GuardedEngine):
            self.assertEqual(made.__module__, "shelfroutes.run.guarded")
        self.assertTrue(issubclass(GuardedEngine, Engine) and issubclass(GuardedEngine, Guard))
        self.assertIsInstance(vars(Guard)["check"], staticmethod)
        self.assertIn("twin", vars(GuardedEngine))
        self.assertEqual(list(inspect.signature(GuardedEngine).parameters), ["scheme"])
        self.assertEqual(list(inspect.signature(Guard.check).parameters), ["scheme"])

    def test_example(self):
        with self.assertRaises(Wrong):
            GuardedEngine(lost())


class Guarded(unittest.TestCase):
    def test_certificates(self):
        self.assertEqual(GuardedEngine(shop()).certificate, local_of(shop()))
        self.assertEqual(Guard.check(shop()), local_of(shop()))
        for scheme in (split(), lazy_one()):
            for certificate in (GuardedEngine(scheme).certificate, Guard.check(scheme), GuardedEngine.check(scheme)):
                self.assertIs(is_certificate(scheme, certificate), True)
                self.assertNotEqual(certificate[0], "counterexample")
        self.assertEqual(GuardedEngine(split()).certificate, Reach(split()).invariant)

    def test_wrong_schemes(self):
        for call in (GuardedEngine, Guard.check, GuardedEngine(shop()).check):
            with self.assertRaises(Wrong) as caught:
                call(lost())
            self.assertIs(is_counterexample(lost(), caught.exception.certificate), True)
            with self.assertRaises(TooMany) as caught:
                call(crowded())
            self.assertEqual(caught.exception.limit, 20000)
            with mock.patch("shelfroutes.check.invariants.MAX_SNAPSHOTS", 5):
                with self.assertRaises(TooMany):
                    call(split())
            for value in those_not(lambda value: isinstance(value, Scheme)):
                with self.assertRaises(InvalidScheme):
                    call(value)

    def test_drawn_schemes(self):
        seen = Counter()
        for rng, scheme in drawn(60):
            try:
                reach = Reach(scheme)
            except TooMany:
                continue
            if reach.invariant is None:
                with self.assertRaises(Wrong) as caught:
                    GuardedEngine(scheme)
                self.assertIs(is_counterexample(scheme, caught.exception.certificate), True)
            else:
                self.check_beside_an_engine(rng, scheme)
            seen[reach.invariant is None] += 1
        self.assertGreater(min(seen.values()), 10)

    def check_beside_an_engine(self, rng, scheme):
        guarded, engine = GuardedEngine(scheme), Engine(scheme)
        self.assertIs(is_certificate(scheme, guarded.certificate), True)
        for _ in range(12):
            event = draw_event(rng, scheme, engine.plan, engine.world.rows)
            self.assertEqual(guarded(event), engine(event))
            self.assertTrue(guarded == engine and engine == guarded)
            self.assertEqual((guarded.log, guarded.moves, guarded.output), (engine.log, engine.moves, engine.output))
            self.assertIs(guarded.is_right(), True)
        twin = guarded.twin()
        self.assertIsInstance(twin, GuardedEngine)
        self.assertEqual((twin.certificate, twin.log, twin == guarded), (guarded.certificate, guarded.log, True))

    def test_twins(self):
        guarded = GuardedEngine(shop())
        guarded.add("cus", (1, 5))
        guarded.add("ord", (1, 7))
        guarded.undo()
        twin = guarded.twin()
        self.assertEqual((type(twin), type(twin.twin()), twin.scheme), (GuardedEngine, GuardedEngine, shop()))
        self.assertEqual((twin.log, twin.redo(), len(twin), len(guarded)), (guarded.log, 2, 2, 1))
        self.assertIs(is_certificate(shop(), twin.certificate), True)
        twin.switch("wide")
        self.assertEqual((twin.plan, guarded.plan, guarded.redo()), ("wide", "flat", 2))
        self.assertEqual(str(twin), "engine with the plan wide, 2 rows, 0 results")
        self.assertEqual([type(same) for same in (guarded.during(lambda engine: engine.twin()),)], [GuardedEngine])
        with guarded.trial() as same:
            self.assertIs(same, guarded)
            guarded.remove(1)
        self.assertEqual(len(guarded), 2)

    def test_signs(self):
        guarded = GuardedEngine(shop())
        same = guarded
        guarded += ("cus", (1, 5))
        guarded.plan = "wide"
        guarded += ("ord", (1, 7))
        guarded -= 1
        self.assertIs(guarded, same)
        self.assertEqual((guarded.log[-1], 2 in guarded, guarded[2]), (("remove", 1), True, ("ord", (1, 7))))
        with self.assertRaises(TypeError):
            iter(guarded)

    def test_errors_change_nothing(self):
        guarded = GuardedEngine(shop())
        guarded.add("cus", (1, 5))
        twin = guarded.twin()
        for call, error in ((lambda: guarded.add("x", (1,)), UnknownName), (lambda: guarded.add("cus", (1,)), InvalidRow),
                            (lambda: guarded.remove(2), UnknownKey), (lambda: guarded.switch("x"), UnknownName),
                            (lambda: guarded.switch("flat"), InvalidOperation), (lambda: guarded.undo(many=2), NothingToUndo),
                            (lambda: guarded(("add", "cus")), InvalidEvent), (lambda: guarded.load("sco", 1), UnknownName)):
            with self.assertRaises(error):
                call()
            self.assertEqual((guarded == twin, guarded.log), (True, twin.log))

    def test_limits(self):
        query = Query({"k": ("x",), "m": ("x",)}, (), c=("core", "k"), d=("core", "m"))
        stores = {"sc": ("plain", ("c",)), "sd": ("plain", ("d",))}
        pipelines = {"c": (steps("update sc, join sd, emit"),), "d": (steps("update sd, join sc, emit"),)}
        guarded = GuardedEngine(Scheme(query, stores=stores, plans={"p": Plan.both_ways(pipelines)}, first="p"))
        for _ in range(45):
            guarded.add("k", (1,))
        for _ in range(44):
            guarded.add("m", (1,))
        self.assertEqual((len(guarded.output), guarded.is_right()), (1980, True))
        self.assertEqual(len(guarded.twin().output), 1980)
        for _ in range(10):
            guarded.add("m", (1,))
        twin = guarded.twin()
        guarded.add("m", (1,))
        for table in ("k", "m"):
            with self.assertRaises(TooMany) as caught:
                guarded.add(table, (1,))
            self.assertEqual((caught.exception.limit, len(guarded)), (100, 100))
        guarded.undo()
        self.assertTrue(guarded == twin)


class SnapshotsOfEngines(unittest.TestCase):
    def test_all_full_matches_with_all_further_rows(self):
        seen = Counter()
        for rng, scheme in drawn(60, "snapshots of guarded"):
            try:
                guarded = GuardedEngine(scheme)
            except (Wrong, TooMany):
                continue
            query = scheme.query
            for _ in range(14):
                guarded(draw_event(rng, scheme, guarded.plan, guarded.world.rows, most=1))
            placed = dict(enumerate([event[1:] for event in guarded.log if event[0] == "add"], 1))
            for keys in plain.all_matches(query, placed, plain.cores(query))[:12]:
                rows = dict(zip(plain.cores(query), keys))
                fitting = {side: plain.fits(query, placed, rows, side) for side in query.sides}
                choices = [[(side, some) for many in range(3) for some in itertools.combinations(fitting[side][:4], many)]
                           for side in query.sides]
                for further in itertools.product(*choices):
                    self.check(guarded, rows, dict(further), fitting, seen)
        self.assertTrue(min(seen["all", many] for many in (0, 1, 2)) > 10, seen)
        self.assertGreater(seen["gone"], 50)

    def check(self, guarded, rows, further, fitting, seen):
        """The form, and what is due, if all rows that are there are among the listed ones."""
        scheme, query = guarded.scheme, guarded.scheme.query
        snapshot = snapshot_of(guarded, rows, further)
        self.assertIs(is_snapshot(scheme, snapshot), True)
        self.assertEqual(snapshot, snapshot_of(guarded.twin(), rows, further))
        self.assertEqual(snapshot[1], tuple("in" if rows[role] in guarded else "gone" for role in query.core))
        seen["gone"] += "gone" in snapshot[1]
        are_all = all(key in further[side] for side in fitting for key in fitting[side] if key in guarded)
        if are_all:
            self.assertTrue(all(is_right(scheme, snapshot, event) for event in events_at(scheme, snapshot)))
            core = tuple(rows[role] for role in query.core)
            whole = core if query.optional is None else core + (None,)
            self.assertEqual(due_at(scheme, snapshot)[0], guarded.output[whole])
            seen["all", sum(len(keys) for keys in further.values())] += 1

    def test_errors(self):
        guarded = GuardedEngine(shop())
        for event in (("add", "cus", (1, 5)), ("add", "ord", (1, 7)), ("add", "item", (7,)), ("add", "block", (5,))):
            guarded(event)
        rows = {"c": 1, "i": 3, "o": 2}
        self.assertEqual(snapshot_of(guarded, rows, {"b": (4,)})[1:], (("in",) * 3, (1, 0, 1, 1), (),
                                                                       ((None, ((True, (1,), True),)),)))
        for value in everything():
            with self.assertRaises(InvalidOperation):
                snapshot_of(guarded, value, {})
            if value not in ({}, (), []):
                with self.assertRaises(InvalidOperation):
                    snapshot_of(guarded, rows, value)


if __name__ == "__main__":
    unittest.main()
