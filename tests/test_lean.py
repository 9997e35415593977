"""Stage 16: lean schemes."""

import unittest
from collections import Counter
from unittest import mock

from shelfroutes.check.histories import is_counterexample
from shelfroutes.check.local import is_right_scheme
from shelfroutes.errors import InvalidOperation, InvalidPlan, InvalidScheme, TooMany, Wrong
from shelfroutes.make.lean import (can_leave_out, is_lean, is_lean_paper, lean_of, lean_paper, places, without_step)
from shelfroutes.make.trees import scheme_by
from shelfroutes.plan.plans import Plan
from shelfroutes.plan.schemes import Scheme
from shelfroutes.text.texts import read_scheme
from tests.draws import SIDES, draw_query, draw_scheme, rng_of, subset
from tests.dressed import draw_dressed
from tests.more_shops import crowded, split
from tests.shop import CHAIN_TEXT, lost, shop
from tests.trees import draw_tree
from tests.values import everything, those_not

FULL_TEXT = CHAIN_TEXT.replace("store so o", "store sco c o\nstore so o").replace(
    "add c: update sc, join so", "add c: update sc, join so, update sco")
SPARE = ("plan", "flat", "add", "c", 0, 2)


def chain():
    return read_scheme(CHAIN_TEXT)


def full():
    return read_scheme(FULL_TEXT)


def told_places(scheme):
    found = []
    for name, plan in scheme.plans.items():
        for word, role in plan.pairs():
            for index, pipeline in enumerate(plan[word, role]):
                found += [("plan", name, word, role, index, at) for at in range(len(pipeline))]
    for (name, other), steps in scheme.transitions.items():
        found += [("switch", name, other, at) for at in range(len(steps))]
    return tuple(sorted(found))


def told_without(scheme, place):
    """The scheme without a step, by its constructor."""
    plans, transitions = {}, dict(scheme.transitions)
    for name, plan in scheme.plans.items():
        given = {pair: [list(pipeline) for pipeline in plan[pair]] for pair in plan}
        if place[:2] == ("plan", name):
            del given[place[2:4]][place[4]][place[5]]
        plans[name] = Plan({pair: tuple(tuple(steps) for steps in given[pair] if steps) for pair in given})
    if place[0] == "switch":
        steps = list(transitions[place[1:3]])
        del steps[place[3]]
        transitions[place[1:3]] = tuple(steps)
    return Scheme(scheme.query, lasting=scheme.lasting, stores=scheme.stores, plans=plans, transitions=transitions,
                  first=scheme.first)


def told_rest(scheme, place):
    try:
        return told_without(scheme, place)
    except InvalidPlan:
        return None


def with_spare_steps(rng, scheme):
    """The scheme with further stores that are kept up and never asked, and with steps in its transitions for them."""
    stores = dict(scheme.stores)
    role = rng.choice(scheme.query.core)
    stores["zz"] = ("plain", (role,))
    plans = {}
    for name, plan in scheme.plans.items():
        given = {pair: plan[pair] for pair in plan}
        pair = ("add", role)
        if len(given.get(pair, ())) < 4:
            given[pair] = given.get(pair, ()) + ((("update", "zz"),),)
        plans[name] = Plan(given)
    transitions = {pair: (("clear", "zz"),) + steps if rng.random() < 0.5 else steps
                   for pair, steps in scheme.transitions.items()}
    return Scheme(scheme.query, lasting=scheme.lasting, stores=stores, plans=plans, transitions=transitions,
                  first=scheme.first)


def drawn(many, label="lean"):
    """Small right schemes, some of them with spare steps."""
    for seed in range(many):
        rng = rng_of(label, seed)
        query = draw_query(rng, most_core=2, sides=SIDES[seed % 5])
        trees = {name: rng.choice((None, draw_tree(rng, query.core))) for name in "pq"[:1 + seed % 2]}
        scheme = scheme_by(query, trees, lasting=subset(rng, query.tables) if seed % 3 == 0 else ())
        yield rng, with_spare_steps(rng, scheme) if seed % 4 else scheme


class Interface(unittest.TestCase):
    def test_where_all_is_defined(self):
        for made in (places, without_step, can_leave_out, is_lean, lean_of, lean_paper, is_lean_paper):
            self.assertEqual(made.__module__, "shelfroutes.make.lean")

    def test_example(self):
        gone, reasons = lean_paper(full())
        self.assertEqual([gone, len(reasons), reasons[1]],
                         [(SPARE,), 12, (("plan", "flat", "add", "c", 0, 1), None)])


class Places(unittest.TestCase):
    def test_against_a_second_making(self):
        seen = Counter()
        for seed in range(60):
            rng = rng_of("places", seed)
            query = draw_query(rng, most_core=3, sides=SIDES[seed % 8])
            scheme = draw_scheme(rng, query) if seed % 2 else draw_dressed(rng, lambda: query, plans=2)
            self.assertEqual(places(scheme), told_places(scheme))
            for place in places(scheme)[::2]:
                told = told_rest(scheme, place)
                if told is None:
                    with self.assertRaises(InvalidPlan):
                        without_step(scheme, place)
                else:
                    self.assertTrue(without_step(scheme, place) == told)
                    self.assertEqual(len(places(told)), len(places(scheme)) - 1)
                seen[place[0], told is None] += 1
        self.assertTrue(min(seen["plan", True], seen["plan", False], seen["switch", False]) > 30, seen)
        self.assertEqual(seen["switch", True], 0)

    def test_edges(self):
        self.assertEqual(len(places(chain())), 12)
        self.assertIn(("switch", "flat", "wide", 0), places(shop()))
        self.assertTrue(without_step(shop(), ("switch", "flat", "wide", 0)) == lost())
        self.assertEqual(lost().steps_of("flat", "wide"), ())
        short = shop(plans={"flat": Plan({("add", "c"): ((("update", "sc"),), (("join", "so"),))}), "wide": Plan()})
        left = without_step(short, ("plan", "flat", "add", "c", 0, 0))
        self.assertEqual((left["flat"]["add", "c"], places(left)),
                         (((("join", "so"),),), (("plan", "flat", "add", "c", 0, 0), ("switch", "flat", "wide", 0))))
        self.assertEqual(len(without_step(left, ("plan", "flat", "add", "c", 0, 0))["flat"]), 0)

    def test_errors(self):
        for value in those_not(lambda value: isinstance(value, Scheme)):
            with self.assertRaises(InvalidScheme):
                places(value)
            for call in (is_lean, lean_of, lean_paper):
                with self.assertRaises(InvalidScheme):
                    call(value)
            for other in (SPARE, None):
                for call in (without_step, can_leave_out, is_lean_paper):
                    with self.assertRaises(InvalidScheme):
                        call(value, other)
        near = [SPARE[:5], SPARE + (0,), list(SPARE), SPARE[:5] + (3 + 1,), SPARE[:5] + (-1,), SPARE[:4] + (False, 2),
                SPARE[:4] + (1, 2), ("plan", "wide") + SPARE[2:], ("switch", "flat", "wide", 0), ("switch", "flat", 0)]
        for value in everything() + near:
            for scheme in (full(), read_scheme(FULL_TEXT.replace("join so, update sco, emit", "join so, update sco"))):
                for call in (without_step, can_leave_out):
                    with self.assertRaises(InvalidOperation):
                        call(scheme, value)
        with self.assertRaises(InvalidOperation):
            without_step(shop(), ("switch", "flat", "wide", False))


class Lean(unittest.TestCase):
    def test_drawn_schemes(self):
        seen = Counter()
        for rng, scheme in drawn(36):
            paper = lean_paper(scheme)
            left = self.check_paper(scheme, paper, seen)
            self.assertIs(is_lean_paper(scheme, paper), True)
            self.assertIs(is_lean(scheme), paper[0] == ())
            self.assertIs(is_lean(left), True)
            self.assertEqual(lean_paper(left), ((), paper[1]))
            other = lean_of(scheme)
            self.assertIs(is_lean(other), True)
            place = rng.choice(places(scheme))
            rest = told_rest(scheme, place)
            self.assertIs(can_leave_out(scheme, place), rest is not None and is_right_scheme(rest))
            self.check_spoilt(rng, scheme, paper)
            seen[paper[0] == ()] += 1
        self.assertTrue(min(seen[True], seen[False], seen["none"], seen["wrong"], seen["switch"]) > 5, seen)

    def check_paper(self, scheme, paper, seen):
        """Each step of the paper, by a second look."""
        left = scheme
        for place in paper[0]:
            self.assertIn(place, told_places(left))
            left = told_without(left, place)
            self.assertIs(is_right_scheme(left), True)
            seen[place[0]] += 1
        self.assertEqual(tuple(place for place, _ in paper[1]), told_places(left))
        for place, reason in paper[1]:
            rest = told_rest(left, place)
            if rest is None:
                self.assertIsNone(reason)
                seen["none"] += 1
            else:
                self.assertIs(is_counterexample(rest, reason), True)
                seen["wrong"] += 1
        return left

    def check_spoilt(self, rng, scheme, paper):
        gone, reasons = paper
        at = rng.randrange(len(reasons))
        place, reason = reasons[at]
        # No reason where there has to be one, or one where there is none.
        other = ("counterexample", ()) if reason is None else None
        spoilt = [(gone, reasons[:at] + reasons[at + 1:]), (gone, reasons[:at] + ((place, other),) + reasons[at + 1:]),
                  (gone, reasons + reasons[-1:]), (gone + (place,), reasons), (gone, list(reasons)), (list(gone), reasons),
                  [gone, reasons], (gone, reasons, ()), (gone, ())]
        for pair in ((place + (0,), reason), (place[:-1] + (bool(place[-1]),), reason), (place,), (place, reason, None),
                     [place, reason], (list(place), reason)):
            spoilt.append((gone, reasons[:at] + (pair,) + reasons[at + 1:]))
        if gone:
            spoilt += [(gone[:-1], reasons), (gone[1:], reasons)]
        if len(reasons) > 1:
            spoilt.append((gone, reasons[::-1]))
        for value in spoilt:
            self.assertIs(is_lean_paper(scheme, value), False)

    def test_longer_counterexamples_are_reasons_too(self):
        gone, reasons = lean_paper(full())
        longer = []
        for place, reason in reasons:
            if reason is not None:
                # A row that comes and goes, and fits nothing; later keys are one more.
                events = [("add", "cus", (99,)), ("remove", 1)]
                events += [("remove", event[1] + 1) if event[0] == "remove" else event for event in reason[1]]
                changed = ("counterexample", tuple(events))
                rest = told_without(lean_of(full()), place)
                longer.append((place, changed if is_counterexample(rest, changed) else reason))
            else:
                longer.append((place, None))
        self.assertNotEqual(tuple(longer), reasons)
        self.assertIs(is_lean_paper(full(), (gone, tuple(longer))), True)

    def test_values(self):
        good = lean_paper(full())
        self.assertIs(is_lean_paper(full(), good), True)
        for value in everything():
            for judged in (value, (value, good[1]), (good[0], value), ((value,), good[1]), (good[0] + (value,), good[1]),
                           (good[0], (value,) + good[1][1:]), (good[0], good[1][:1] + ((good[1][1][0], value),) + good[1][2:])):
                self.assertIs(is_lean_paper(full(), judged), repr(judged) == repr(good), judged)
        self.assertIs(is_lean_paper(full(), ((), good[1])), False)
        near = ("plan", "flat", "add", "c", False, 2)
        self.assertIs(is_lean_paper(full(), ((near,), good[1])), False)

    def test_steps_that_depend_on_one_another(self):
        """A pipeline that only keeps up a store that nothing asks: its last step has to go first."""
        text = CHAIN_TEXT.replace("store so o", "store sco c o\nstore so o")
        scheme = read_scheme(text.replace("add o: update so", "add c: join so, update sco\nadd o: update so"))
        gone, reasons = lean_paper(scheme)
        self.assertEqual(gone, (("plan", "flat", "add", "c", 1, 1), ("plan", "flat", "add", "c", 1, 0)))
        self.assertTrue(lean_of(scheme) == read_scheme(text))
        self.assertIs(is_lean_paper(scheme, (gone, reasons)), True)
        self.assertIs(is_lean_paper(scheme, (gone[::-1], reasons)), False)
        self.assertIs(can_leave_out(scheme, gone[0]), True)
        self.assertIs(can_leave_out(scheme, gone[1]), False)

    def test_a_scheme_without_a_local_certificate(self):
        paper = lean_paper(split())
        self.assertIs(is_lean_paper(split(), paper), True)
        self.check_paper(split(), paper, Counter())

    def test_transitions(self):
        scheme = read_scheme(FULL_TEXT.replace("first flat", "plan other\nadd c: update sc, join so, emit\nadd o: update so, join sc, emit\n"
                             "remove c: update sc, join so, emit\nremove o: update so, join sc, emit\n"
                             "switch flat other: clear sco\nswitch other flat:\nfirst flat"))
        self.assertIs(can_leave_out(scheme, ("switch", "flat", "other", 0)), True)
        gone, reasons = lean_paper(scheme)
        self.assertIn(("switch", "flat", "other", 0), gone)
        self.assertEqual(lean_of(scheme).transitions, {("flat", "other"): (), ("other", "flat"): ()})
        self.assertEqual(len(reasons), 24)

    def test_plans_that_are_not_reached(self):
        scheme = shop(transitions={("wide", "flat"): ()}, first="flat")
        left = lean_of(scheme)
        self.assertEqual((len(left["wide"]), len(left["flat"]), len(left)), (0, 8, 2))

    def test_wrong_schemes(self):
        place = ("plan", "flat", "add", "c", 0, 0)
        for call in (lambda: can_leave_out(lost(), place), lambda: is_lean(lost()), lambda: lean_of(lost()),
                     lambda: lean_paper(lost()), lambda: is_lean_paper(lost(), None),
                     lambda: is_lean_paper(lost(), ((), ()))):
            with self.assertRaises(Wrong) as caught:
                call()
            self.assertIs(is_counterexample(lost(), caught.exception.certificate), True)

    def test_too_many(self):
        for call in (is_lean, lean_of, lean_paper, lambda scheme: is_lean_paper(scheme, None)):
            with self.assertRaises(TooMany) as caught:
                call(crowded())
            self.assertEqual(caught.exception.limit, 20000)
        # The scheme itself has a local certificate, what is left without a step of it has none.
        with mock.patch("shelfroutes.check.invariants.MAX_SNAPSHOTS", 3):
            for call in (is_lean, lean_of, lean_paper, lambda scheme: can_leave_out(scheme, ("plan", "flat", "add", "c", 0, 0))):
                with self.assertRaises(TooMany):
                    call(chain())


if __name__ == "__main__":
    unittest.main()
