import inspect
import unittest

import shelfroutes.check.histories as histories
from shelfroutes.base.bags import Bag
from shelfroutes.check.histories import (MAX_EVENTS, first_wrong, is_counterexample, is_event, is_history, is_tight,
                                         outputs, run, tightened, without_event)
from shelfroutes.errors import (InvalidEvent, InvalidNumber, InvalidOperation, InvalidRow, InvalidScheme, Stopped,
                                TooMany, UnknownKey, UnknownName)
from shelfroutes.plan.plans import Plan
from shelfroutes.plan.schemes import Scheme
from shelfroutes.query.queries import Query
from shelfroutes.run.engine import Engine
from tests import plain
from tests.draws import draw_history, draw_scheme, rng_of
from tests.shop import lost, shop, steps
from tests.told import named
from tests.values import TOO_LONG, everything, those_not, whole

EVENTS = (("add", "cus", (1, 5)), ("add", "ord", (1, 7)), ("switch", "wide"), ("add", "item", (7,)))
LONGER = (("add", "item", (8,)), ("remove", 1)) + EVENTS
FORMS = (("add", "cus", (1, 5)), ("remove", 3), ("switch", "wide"), ("load", "sco", -1), ("evict", "sco", 0))


def told_event(value):
    if not isinstance(value, tuple) or len(value) not in (2, 3) or not isinstance(value[0], str):
        return False
    parts = {"add": (named, lambda row: isinstance(row, tuple) and 1 <= len(row) <= 6 and all(whole(part) for part in row)),
             "remove": (whole,), "switch": (named,), "load": (named, whole), "evict": (named, whole)}.get(value[0], ())
    return len(parts) == len(value) - 1 and all(part(told) for part, told in zip(parts, value[1:]))


def told_events(value):
    return isinstance(value, tuple) and len(value) <= 400 and all(told_event(event) for event in value)


def told_without(events, index):
    """The events without one of them; each removal is followed to its arrival."""
    arrivals = [at for at, event in enumerate(events) if event[0] == "add"]
    kept = [at for at in range(len(events)) if at != index]
    order = [at for at in arrivals if at != index]
    found = []
    for at in kept:
        if events[at][0] == "remove" and 1 <= events[at][1] <= len(arrivals):
            arrival = arrivals[events[at][1] - 1]
            if arrival != index:
                found.append(("remove", order.index(arrival) + 1))
        else:
            found.append(events[at])
    return tuple(found)


def told_wrong(scheme, events):
    """The first index after which the output of the second reckoning is wrong, or None."""
    engine = plain.PlainEngine(scheme)
    for index, event in enumerate(events):
        engine.do(event)
        due = plain.results(scheme.query, engine.present())
        if {key: many for key, many in engine.output.items() if many} != {key: 1 for key in due}:
            return index
        if any(abs(many) != 1 for many in engine.moves.values()):
            return index
    return None


class Interface(unittest.TestCase):
    def test_where_all_is_defined(self):
        self.assertEqual(MAX_EVENTS, 400)
        for made in (is_event, without_event, run, outputs, first_wrong, is_history, is_counterexample, is_tight,
                     tightened):
            self.assertEqual(made.__module__, "shelfroutes.check.histories")
        self.assertTrue(inspect.isgeneratorfunction(histories.outputs))

    def test_example(self):
        self.assertEqual([first_wrong(lost(), EVENTS), first_wrong(shop(), EVENTS),
                          [len(bag) for bag in outputs(shop(), EVENTS)]], [3, None, [0, 0, 0, 1]])
        self.assertEqual([without_event(LONGER, 0) == EVENTS,
                          tightened(lost(), ("counterexample", LONGER)) == ("counterexample", EVENTS)], [True, True])


class Forms(unittest.TestCase):
    def test_events(self):
        for event in FORMS:
            self.assertIs(is_event(event), True)
            for at in range(len(event)):
                for value in everything():
                    spoilt = event[:at] + (value,) + event[at + 1:]
                    self.assertIs(is_event(spoilt), told_event(spoilt), spoilt)
            for value in (event[:-1], event + (1,), list(event), (event,), event[1:]):
                self.assertIs(is_event(value), told_event(value), value)
        for value in everything():
            self.assertIs(is_event(value), told_event(value), value)
        for row in ((), (1,) * 6, (1,) * 7, (TOO_LONG,), (True,), [1]):
            self.assertIs(is_event(("add", "cus", row)), row == (1,) * 6)

    def test_without(self):
        events = (("add", "cus", (1, 5)), ("add", "ord", (1, 7)), ("remove", 1), ("add", "item", (7,)), ("remove", 3),
                  ("switch", "wide"), ("remove", 2), ("load", "sco", 3))
        self.assertEqual(without_event(events, 0), (
            ("add", "ord", (1, 7)), ("add", "item", (7,)), ("remove", 2), ("switch", "wide"), ("remove", 1),
            ("load", "sco", 3)))
        self.assertEqual(without_event(events, 3), events[:3] + events[5:])
        for index in (2, 4, 5, 6, 7):
            self.assertEqual(without_event(events, index), events[:index] + events[index + 1:])

    def test_without_in_drawn_histories(self):
        for seed in range(60):
            scheme = draw_scheme(rng_of("without", seed))
            events = draw_history(seed, scheme, 20)
            for index in range(len(events)):
                self.assertEqual(without_event(events, index), told_without(events, index))

    def test_each_removal_of_the_key(self):
        """The events need not be a history."""
        events = (("remove", 1), ("add", "cus", (1, 5)), ("remove", 1), ("remove", 1), ("remove", 7), ("remove", 0),
                  ("remove", -3))
        self.assertEqual(without_event(events, 1), (("remove", 6), ("remove", 0), ("remove", -3)))

    def test_wrong_arguments_of_without(self):
        for value in those_not(told_events) + [EVENTS * 101, list(EVENTS), EVENTS + (1,)]:
            for index in (0, None):
                with self.assertRaises(InvalidEvent):
                    without_event(value, index)
        self.assertEqual(len(without_event(EVENTS * 100, 2)), 399)
        for value in those_not(lambda value: whole(value) and 0 <= value < 4) + [4, -1, True]:
            with self.assertRaises(InvalidNumber) as caught:
                without_event(EVENTS, value)
            self.assertIs(caught.exception.value, value)
        with self.assertRaises(InvalidNumber):
            without_event((), 0)


class Run(unittest.TestCase):
    def test_engines(self):
        engine = run(shop(), EVENTS)
        self.assertEqual((type(engine), engine.log, engine.output.pairs()), (Engine, EVENTS, (((1, 3, 2), 1),)))
        self.assertEqual(run(shop(), ()), Engine(shop()))

    def test_outputs(self):
        found = list(outputs(shop(), EVENTS + (("remove", 3),)))
        self.assertEqual(found, [Bag(), Bag(), Bag(), Bag({(1, 3, 2): 1}), Bag()])
        self.assertEqual(list(outputs(shop(), ())), [])
        made = outputs(shop(), EVENTS + (("remove", 9),))
        self.assertEqual([len(next(made)) for _ in range(4)], [0, 0, 0, 1])
        with self.assertRaises(Stopped) as caught:
            next(made)
        self.assertEqual(caught.exception.index, 4)

    def test_wrong_arguments(self):
        calls = (run, first_wrong, lambda *told: list(outputs(*told)))
        for call in calls:
            for value in those_not(lambda value: isinstance(value, Scheme)):
                for events in (EVENTS, None):
                    with self.assertRaises(InvalidScheme):
                        call(value, events)
            for value in those_not(told_events) + [EVENTS * 101, list(EVENTS)]:
                with self.assertRaises(InvalidEvent):
                    call(shop(), value)
        made = outputs(None, None)
        with self.assertRaises(InvalidScheme):
            next(made)

    def test_stopped(self):
        for event, error in ((("add", "none", (1,)), UnknownName), (("add", "cus", (1,)), InvalidRow),
                             (("remove", 4), UnknownKey), (("remove", 0), UnknownKey), (("switch", "x"), UnknownName),
                             (("switch", "wide"), InvalidOperation), (("load", "sco", 1), UnknownName)):
            events = EVENTS + (event, ("remove", 9))
            for call in (run, first_wrong, lambda *told: list(outputs(*told))):
                with self.assertRaises(Stopped) as caught:
                    call(shop(), events)
                self.assertEqual(caught.exception.index, 4)
                self.assertIsInstance(caught.exception.__cause__, error)
            self.assertIs(is_history(shop(), events), False)
        many = tuple(("add", "item", (1,)) for _ in range(101))
        with self.assertRaises(Stopped) as caught:
            run(shop(), many)
        self.assertEqual((caught.exception.index, type(caught.exception.__cause__)), (100, TooMany))

    def test_events_behind_the_first_wrong_one_are_not_done(self):
        self.assertEqual(first_wrong(lost(), EVENTS + (("remove", 9),)), 3)
        with self.assertRaises(Stopped):
            run(lost(), EVENTS + (("remove", 9),))

    def test_four_hundred_events(self):
        events = (("switch", "wide"), ("switch", "flat")) * 200
        self.assertEqual((run(shop(), events).plan, first_wrong(shop(), events)), ("flat", None))
        self.assertIs(is_history(shop(), events), True)
        self.assertIs(is_history(shop(), events + (("switch", "wide"),)), False)


class Judged(unittest.TestCase):
    def test_histories(self):
        for value in everything() + [list(EVENTS), EVENTS + (1,)]:
            self.assertIs(is_history(shop(), value), value == () or value == (("add", "cus", (1, 5)),))
        self.assertEqual([is_history(shop(), EVENTS[:many]) for many in range(5)], [True] * 5)
        self.assertIs(is_history(lost(), EVENTS), True)
        self.assertIs(is_history(shop(), (("remove", True),)), False)

    def test_counterexamples(self):
        good = ("counterexample", EVENTS)
        self.assertEqual([is_counterexample(lost(), good), is_counterexample(shop(), good), is_tight(lost(), good),
                          is_tight(shop(), good)], [True, False, True, False])
        for value in everything():
            for judged in (value, ("counterexample", value), (value, EVENTS), ("counterexample", EVENTS, value),
                           ("counterexample", EVENTS + (value,)), ["counterexample", EVENTS]):
                self.assertIs(is_counterexample(lost(), judged), False)
                self.assertIs(is_tight(lost(), judged), False)
        for events in (EVENTS[:3], (), EVENTS + (("remove", 3),), EVENTS + (("remove", 9),), (("remove", 9),) + EVENTS):
            self.assertIs(is_counterexample(lost(), ("counterexample", events)), False)

    def test_tight(self):
        for events, tight in ((EVENTS, True), (LONGER, False), ((("add", "item", (8,)),) + EVENTS, False),
                              ((("add", "block", (4,)),) + EVENTS, False)):
            self.assertIs(is_counterexample(lost(), ("counterexample", events)), True)
            self.assertIs(is_tight(lost(), ("counterexample", events)), tight)

    def test_schemes(self):
        for call in (is_history, is_counterexample, is_tight, tightened):
            for value in those_not(lambda value: isinstance(value, Scheme)):
                for judged in (EVENTS, None):
                    with self.assertRaises(InvalidScheme):
                        call(value, judged)

    def test_tightened_errors(self):
        wrong = everything() + [("counterexample", EVENTS[:3]), ("counterexample", EVENTS + (("remove", 3),)), EVENTS]
        for value in wrong:
            with self.assertRaises(InvalidEvent):
                tightened(lost(), value)
        with self.assertRaises(InvalidEvent):
            tightened(shop(), ("counterexample", EVENTS))

    def test_drawn_histories(self):
        """Against the second reckoning, and tightened."""
        wrong = shorter = 0
        for seed in range(120):
            scheme = draw_scheme(rng_of("judged", seed))
            events = draw_history(seed, scheme, 15, most=1)
            told = told_wrong(scheme, events)
            self.assertEqual(first_wrong(scheme, events), told)
            self.assertIs(is_history(scheme, events), True)
            for many in range(len(events) + 1):
                value = ("counterexample", events[:many])
                self.assertIs(is_counterexample(scheme, value), told is not None and many == told + 1)
            if told is not None:
                self.check_tight(scheme, events[:told + 1])
                wrong += 1
                shorter += len(tightened(scheme, ("counterexample", events[:told + 1]))[1]) < told + 1
        self.assertGreater(wrong, 40)
        self.assertGreater(shorter, 20)

    def check_tight(self, scheme, events):
        word, tight = tightened(scheme, ("counterexample", events))
        self.assertEqual((word, told_wrong(scheme, tight)), ("counterexample", len(tight) - 1))
        self.assertIs(is_tight(scheme, (word, tight)), True)
        for index in range(len(tight)):
            others = told_without(tight, index)
            accepted = 0
            while accepted < len(others) and is_history(scheme, others[:accepted + 1]):
                accepted += 1
            self.assertIsNone(told_wrong(scheme, others[:accepted]))
        if told_events(events) and tight != events:
            self.assertIs(is_tight(scheme, ("counterexample", events)), any(
                self.is_wrong_without(scheme, events, index) for index in range(len(events))) is False)

    def is_wrong_without(self, scheme, events, index):
        try:
            return first_wrong(scheme, told_without(events, index)) is not None
        except Stopped:
            return False

    def test_a_long_one(self):
        junk = tuple(event for key in range(1, 100) for event in (("add", "item", (8,)), ("remove", key)))
        self.assertEqual(tightened(lost(), ("counterexample", junk + EVENTS)), ("counterexample", EVENTS))

    def test_events_of_which_no_single_one_can_be_left_out(self):
        """A switch to and fro: without one of the two the engine does not accept the other one."""
        value = ("counterexample", (("switch", "wide"), ("switch", "flat")) + EVENTS)
        self.assertIs(is_tight(lost(), value), True)
        self.assertIs(is_tight(lost(), tightened(lost(), value)), True)

    def test_too_many(self):
        """Where results are too many to be looked at, `first_wrong` says so, and judges find nothing wrong."""
        query = Query({"k": ("x",), "m": ("x",)}, (), c=("core", "k"), d=("core", "m"))
        stores = {"sc": ("plain", ("c",)), "sd": ("plain", ("d",))}
        plan = Plan({("add", "c"): (steps("update sc, join sd, emit"),), ("add", "d"): (steps("update sd, join sc, emit"),)})
        scheme = Scheme(query, stores=stores, plans={"p": plan}, first="p")
        events = tuple([("add", "k", (1,))] * 45 + [("add", "m", (1,))] * 45)
        self.assertIsNone(first_wrong(scheme, events[:89]))
        self.assertIs(is_history(scheme, events), True)
        for more in ((), (("remove", 1),)):
            with self.assertRaises(TooMany) as caught:
                first_wrong(scheme, events + more)
            self.assertEqual(caught.exception.limit, 2000)
            self.assertIs(is_counterexample(scheme, ("counterexample", events + more)), False)
            self.assertIs(is_tight(scheme, ("counterexample", events + more)), False)
        self.assertEqual(first_wrong(scheme, events[:89] + (("remove", 1),)), 89)


if __name__ == "__main__":
    unittest.main()
