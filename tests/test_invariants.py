"""Stage 11: reached snapshots, invariants, histories that follow paths, counterexamples."""

import inspect
import unittest
from collections import Counter
from unittest import mock

from shelfroutes.check import invariants
from shelfroutes.check.histories import first_wrong, is_counterexample, is_history, run
from shelfroutes.check.invariants import MAX_SNAPSHOTS, Reach, counterexample_of, history_of, is_invariant
from shelfroutes.check.snapshots import (events_at, first_snapshot, is_right, is_snapshot, snapshot_after, snapshot_of)
from shelfroutes.errors import InvalidEvent, InvalidNumber, InvalidScheme, InvalidSnapshot, TooMany
from shelfroutes.plan.schemes import Scheme
from shelfroutes.run.engine import Engine
from shelfroutes.text.texts import read_scheme
from tests.draws import SIDES, draw_history, draw_query, draw_scheme, rng_of
from tests.dressed import draw_dressed
from tests.more_shops import crowded, lazy_one, split
from tests.shop import CHAIN_TEXT, lost, shop
from tests.test_histories import told_wrong
from tests.values import LONGEST, TOO_LONG, everything, those_not, whole


def chain():
    return read_scheme(CHAIN_TEXT)


def told_reach(scheme, most=600):
    """For each reached snapshot its distance, and the wrong events; None if there are too many to look at."""
    first = first_snapshot(scheme)
    distances, wrong, layer = {first: 0}, [], [first]
    while layer:
        further = []
        for snapshot in layer:
            for event in events_at(scheme, snapshot):
                if not is_right(scheme, snapshot, event):
                    wrong.append((snapshot, event))
                    continue
                behind = snapshot_after(scheme, snapshot, event)
                if behind not in distances:
                    distances[behind] = distances[snapshot] + 1
                    further.append(behind)
            if len(distances) > most:
                return None
        layer = further
    return distances, wrong


def drawn(many, label="reach", most_core=3):
    """Small schemes: drawn ones, right ones, and ones with spoilt steps."""
    for seed in range(many):
        rng = rng_of(label, seed)

        def query():
            return draw_query(rng, most_core=most_core, sides=SIDES[seed % 8])
        if seed % 5 == 0:
            yield draw_scheme(rng, query())
        else:
            yield draw_dressed(rng, query, spoilt=seed % 3, plans=1 + seed % 3)


class Interface(unittest.TestCase):
    def test_where_all_is_defined(self):
        self.assertEqual(MAX_SNAPSHOTS, 20000)
        for made in (Reach, is_invariant, history_of, counterexample_of):
            self.assertEqual(made.__module__, "shelfroutes.check.invariants")
        for name in ("snapshots", "wrong", "invariant", "layer", "shortest", "__len__", "__contains__", "__getitem__"):
            self.assertIn(name, vars(Reach))
        for name in ("snapshots", "wrong", "invariant"):
            self.assertIsInstance(vars(Reach)[name], property)
        self.assertEqual(list(inspect.signature(Reach).parameters), ["scheme"])

    def test_example(self):
        one, other = Reach(chain()), Reach(lost())
        self.assertEqual([len(one), one.wrong, len(one.layer(2)), one["flat", ("gone", "out"), (0, 0), (), ()]],
                         [9, (), 3, (("add", "c"), ("remove", "c"))])
        self.assertEqual([other.invariant, len(other.shortest()), len(counterexample_of(lost())[1])], [None, 4, 4])

    def test_nothing_is_iterated_over(self):
        with self.assertRaises(TypeError):
            iter(Reach(chain()))
        with self.assertRaises(TypeError):
            list(Reach(chain()))


class Reached(unittest.TestCase):
    def test_against_a_second_search(self):
        seen = Counter()
        for scheme in drawn(110):
            told = told_reach(scheme)
            if told is None:
                continue
            distances, wrong = told
            reach = Reach(scheme)
            self.assertEqual(reach.snapshots, tuple(sorted(distances)))
            self.assertEqual(reach.wrong, tuple(sorted(wrong)))
            self.assertEqual(len(reach), len(distances))
            for distance in range(max(distances.values()) + 3):
                layer = tuple(sorted(snapshot for snapshot in distances if distances[snapshot] == distance))
                self.assertEqual(reach.layer(distance), layer)
            self.check_result(scheme, reach, distances, wrong)
            seen["wrong" if wrong else "right"] += 1
            seen["not all plans", len(scheme.reached) < len(scheme)] += 1
            for entry in scheme.stores.values():
                seen[entry[0]] += 1
        self.assertTrue(min(seen["wrong"], seen["right"], seen["lazy"], seen["flag"],
                            seen["not all plans", True]) > 4, seen)

    def check_result(self, scheme, reach, distances, wrong):
        """Exactly one of an invariant and a counterexample, and the paths to snapshots."""
        value = counterexample_of(scheme)
        if wrong:
            least = min(distances[snapshot] for snapshot, _ in wrong) + 1
            path = reach.shortest()
            self.assertEqual(len(path), least)
            self.assertEqual(self.follow(scheme, path[:-1])[1], True)
            self.assertIn((self.follow(scheme, path[:-1])[0], path[-1]), wrong)
            self.assertIsNone(reach.invariant)
            self.assertIs(is_counterexample(scheme, value), True)
            self.assertEqual(told_wrong(scheme, value[1]), len(value[1]) - 1)
            self.assertLessEqual(len(value[1]), least)
            self.assertIs(is_invariant(scheme, ("invariant", reach.snapshots)), False)
        else:
            self.assertEqual((reach.shortest(), value), (None, None))
            self.assertEqual(reach.invariant, ("invariant", reach.snapshots))
            self.assertIs(is_invariant(scheme, reach.invariant), True)
        for snapshot in reach.snapshots[::7]:
            path = reach[snapshot]
            self.assertEqual(len(path), distances[snapshot])
            self.assertEqual(self.follow(scheme, path), (snapshot, True))

    def follow(self, scheme, path):
        """The snapshot to which a path leads, and whether all its events are right."""
        snapshot, are_right = first_snapshot(scheme), True
        for event in path:
            self.assertIn(event, events_at(scheme, snapshot))
            are_right = are_right and is_right(scheme, snapshot, event)
            snapshot = snapshot_after(scheme, snapshot, event)
        return snapshot, are_right

    def test_engines_stay_right_where_there_is_an_invariant(self):
        looked_at = 0
        for seed, scheme in enumerate(drawn(60, "stay", most_core=2)):
            try:
                is_safe = Reach(scheme).invariant is not None
            except TooMany:
                continue
            if is_safe:
                looked_at += 1
                try:
                    self.assertIsNone(first_wrong(scheme, draw_history(seed, scheme, 16, most=1)))
                except TooMany:
                    pass
        self.assertGreater(looked_at, 20)

    def test_a_scheme_that_is_right_although_no_store_is_as_meant(self):
        reach = Reach(split())
        self.assertEqual((reach.wrong, reach.shortest()), ((), None))
        self.assertIs(is_invariant(split(), reach.invariant), True)

    def test_only_right_events_lead_on(self):
        """Nothing ever emits here, so a customer cannot arrive behind the order, nor leave behind it."""
        text = CHAIN_TEXT.replace("update sc, join so, emit", "update sc").replace(", join sc, emit", "")
        reach = Reach(read_scheme(text))
        self.assertEqual(len(reach.wrong), 2)
        self.assertNotIn(("flat", ("in", "in"), (1, 1), (), ()), reach)
        self.assertNotIn(("flat", ("gone", "gone"), (1, 1), (), ()), reach)
        self.assertIn(("flat", ("gone", "gone"), (0, 0), (), ()), reach)
        self.assertEqual(len(reach), 8)


class Values(unittest.TestCase):
    def setUp(self):
        self.reach = Reach(shop())
        self.late = ("wide", ("in", "out", "in"), (1, 1, 0, 1), (), ((None, ((True, (1,), True),)),))

    def near_ones(self):
        """Values that are nearly the snapshot `late`, and equal to it, some of them."""
        late = self.late
        yield from (list(late), late[:4], late + (1,), (late,), ("flat",) + late[1:], ("wider",) + late[1:])
        for at in range(5):
            for value in everything():
                yield late[:at] + (value,) + late[at + 1:]
        yield late[:2] + ((True, 1, 0, 1),) + late[3:]
        yield late[:2] + ((1, 1, False, 1),) + late[3:]
        yield late[:1] + (["in", "out", "in"],) + late[2:]
        for sides in (((None, ((1, (1,), True),)),), ((None, ((True, (True,), True),)),), ((None, ((True, (1,), 1),)),),
                      ((None, [(True, (1,), True)]),), ((0, ((True, (1,), True),)),), ((None, ((True, [1], True),)),),
                      [(None, ((True, (1,), True),))], ((None, ((True, (1,), True), {})),), ((None, ({},)),), {}, []):
            yield late[:4] + (sides,)

    def test_members(self):
        self.assertIn(self.late, self.reach)
        for value in list(self.near_ones()) + everything():
            self.assertIs(value in self.reach, type(value) is tuple and repr(value) in self.texts(), value)

    def texts(self):
        if not hasattr(self, "kept"):
            self.kept = {repr(snapshot) for snapshot in self.reach.snapshots}
        return self.kept

    def test_paths(self):
        self.assertEqual(self.reach[first_snapshot(shop())], ())
        for value in list(self.near_ones()) + everything():
            if value not in self.reach:
                with self.assertRaises(InvalidSnapshot):
                    self.reach[value]
        copies = ("flat", ("out", "out", "out"), (1, 1, 1, 1), (), ((None, ()),))
        self.assertIs(is_snapshot(shop(), copies), True)
        with self.assertRaises(InvalidSnapshot):
            self.reach[copies]

    def test_layers(self):
        self.assertEqual(self.reach.layer(0), (first_snapshot(shop()),))
        self.assertEqual((self.reach.layer(400), self.reach.layer(LONGEST)), ((), ()))
        for value in those_not(lambda value: whole(value) and value >= 0) + [TOO_LONG, -1, True]:
            with self.assertRaises(InvalidNumber) as caught:
                self.reach.layer(value)
            self.assertIs(caught.exception.value, value)

    def test_schemes(self):
        for value in those_not(lambda value: isinstance(value, Scheme)):
            for call in (Reach, counterexample_of):
                with self.assertRaises(InvalidScheme):
                    call(value)
            for other in ((), None, ("invariant", ())):
                for call in (is_invariant, history_of):
                    with self.assertRaises(InvalidScheme):
                        call(value, other)

    def test_too_many(self):
        for call in (Reach, counterexample_of):
            with self.assertRaises(TooMany) as caught:
                call(crowded())
            self.assertEqual(caught.exception.limit, 20000)
        many = len(Reach(lost()))
        with mock.patch.object(invariants, "MAX_SNAPSHOTS", many):
            self.assertEqual(len(Reach(lost())), many)
        with mock.patch.object(invariants, "MAX_SNAPSHOTS", many - 1):
            for call in (Reach, counterexample_of):
                with self.assertRaises(TooMany):
                    call(lost())

    def test_what_is_returned_is_no_state(self):
        self.assertIsInstance(self.reach.snapshots, tuple)
        self.assertIs(type(self.reach.invariant[1]), tuple)
        self.assertEqual(self.reach.invariant, Reach(shop()).invariant)


class Judged(unittest.TestCase):
    def test_values(self):
        good = Reach(chain()).invariant
        self.assertIs(is_invariant(chain(), good), True)
        for value in everything():
            for judged in (value, ("invariant", value), (value, good[1]), good + (value,), ("invariant", (value,)),
                           ("invariant", good[1] + (value,))):
                self.assertIs(is_invariant(chain(), judged), False, judged)
        for judged in (list(good), good[:1], good[1:], ("invariant", list(good[1])), ("invariant", good[1][::-1]), ("invariant", ()),
                       ("invariant", good[1] + good[1][-1:]), ("invariant", good[1][:1] + good[1])):
            self.assertIs(is_invariant(chain(), judged), False)
        for at, snapshot in enumerate(good[1]):
            self.assertIs(is_invariant(chain(), ("invariant", good[1][:at] + good[1][at + 1:])), False)
            for near in (list(snapshot), snapshot[:2] + (tuple(bool(many) for many in snapshot[2]),) + snapshot[3:]):
                self.assertIs(is_invariant(chain(), ("invariant", good[1][:at] + (near,) + good[1][at + 1:])), False)

    def test_larger_ones(self):
        """Snapshots that are not reached, with all that they lead to, can stand in an invariant."""
        scheme = shop(transitions={("wide", "flat"): ()}, first="flat")
        good = Reach(scheme).invariant
        other = Reach(scheme.with_first("wide")).invariant
        self.assertEqual(scheme.reached, ("flat",))
        both = tuple(sorted(set(good[1]) | set(other[1])))
        self.assertGreater(len(both), len(good[1]))
        self.assertIs(is_invariant(scheme, ("invariant", both)), True)
        self.assertIs(is_invariant(scheme, ("invariant", other[1])), True)
        self.assertIs(is_invariant(scheme.with_first("wide"), good), False)
        further = [snapshot for snapshot in other[1] if snapshot[0] == "wide"]
        self.assertIs(is_invariant(scheme, ("invariant", tuple(sorted(set(good[1]) | set(further[:3]))))), False)

    def test_an_event_that_is_wrong(self):
        scheme = lost()
        closed = tuple(sorted(told_reach(scheme)[0]))
        self.assertIs(is_invariant(scheme, ("invariant", closed)), False)


def draw_path(rng, scheme, many):
    """A path, with wrong events, too."""
    snapshot, path, snapshots = first_snapshot(scheme), [], []
    for _ in range(many):
        events = events_at(scheme, snapshot)
        if not events:
            break
        path.append(rng.choice(events))
        snapshot = snapshot_after(scheme, snapshot, path[-1])
        snapshots.append(snapshot)
    return tuple(path), snapshots


class Followed:
    """The keys of the rows of a path, and which of them a snapshot lists, read off an engine."""

    def __init__(self, scheme):
        self.scheme, self.query, self.stores = scheme, scheme.query, scheme.stores
        self.rows, self.sides, self.many = {}, {side: [] for side in scheme.query.sides}, 0

    def note(self, event):
        if event[0] == "add":
            self.many += 1
            if event[1] in self.sides:
                self.sides[event[1]].append(self.many)
            else:
                self.rows[event[1]] = self.many

    def is_listed(self, engine, side, key):
        held = [engine.held(name)[(key,)] for name, entry in self.stores.items() if entry == ("plain", (side,))]
        ties = tuple(self.rows[role] for role in self.query.ties(side))
        counted = [engine.counted(name).get(ties, ()) for name, entry in self.stores.items()
                   if entry == ("counter", side)]
        return key in engine or any(held) or any(key in keys for keys in counted)

    def listed(self, engine):
        return {side: tuple(key for key in keys if self.is_listed(engine, side, key))
                for side, keys in self.sides.items()}


class Histories(unittest.TestCase):
    def check(self, scheme, path, snapshots):
        events = history_of(scheme, path)
        self.assertEqual(len(events), len(path))
        self.assertIs(is_history(scheme, events), True)
        engine, followed, compared = Engine(scheme), Followed(scheme), 0
        for event, told, snapshot in zip(events, path, snapshots):
            engine(event)
            followed.note(told)
            if len(followed.rows) == len(scheme.query.core):
                compared += 1
                self.assertEqual(snapshot_of(engine, followed.rows, followed.listed(engine)), snapshot)
        return compared

    def test_drawn_paths(self):
        compared = Counter()
        for seed, scheme in enumerate(drawn(120, "followed")):
            rng = rng_of("path", seed)
            path, snapshots = draw_path(rng, scheme, 30)
            many = self.check(scheme, path, snapshots)
            compared[len(scheme.query.played(scheme.query.table_of(scheme.query.core[0]))) > 1] += many
            compared["lazy"] += many * any(entry[0] == "lazy" for entry in scheme.stores.values())
        self.assertGreater(min(compared[True], compared[False], compared["lazy"]), 150)

    def test_all_reached_snapshots(self):
        for scheme in (chain(), shop(), lazy_one()):
            reach = Reach(scheme)
            for snapshot in reach.snapshots[::5]:
                path = reach[snapshot]
                snapshots = [self.behind(scheme, path[:many + 1]) for many in range(len(path))]
                self.check(scheme, path, snapshots)

    def behind(self, scheme, path):
        snapshot = first_snapshot(scheme)
        for event in path:
            snapshot = snapshot_after(scheme, snapshot, event)
        return snapshot

    def test_long_paths(self):
        listed = (True, (1,), True)
        pairs = {"switch": (("switch", "wide"), ("switch", "flat")), "rows": (("add", "b"), ("remove", "b", listed))}
        for path in (pairs["switch"] * 200, (("add", "c"),) + pairs["rows"] * 199 + (("add", "b"),)):
            self.assertEqual(len(path), 400)
            self.assertIs(is_history(shop(), history_of(shop(), path)), True)
            for longer in (path + (path[0],), pairs["switch"] * 200 + (("switch", "wide"),)):
                with self.assertRaises(InvalidEvent):
                    history_of(shop(), longer)
        self.assertEqual(history_of(shop(), ()), ())

    def test_wrong_paths(self):
        good = (("add", "c"), ("add", "b"), ("remove", "b", (True, (1,), True)))
        self.assertEqual(len(history_of(shop(), good)), 3)
        for value in everything():
            if value not in ((), (("switch", "wide"),), (("add", "c"),)):
                with self.assertRaises(InvalidEvent):
                    history_of(shop(), value)
            for at in range(3):
                path = good[:at] + (value,) + good[at + 1:]
                if value not in (("add", "c"), ("remove", "c"), ("switch", "wide")):
                    with self.assertRaises(InvalidEvent):
                        history_of(shop(), path)
        for last in (("remove", "b", (1, (1,), True)), ("remove", "b", (True, (True,), True)), ("remove", "b"),
                     ("remove", "b", [True, (1,), True]), ["remove", "b", (True, (1,), True)], ("add", "c"),
                     ("remove", "b", (True, (1,), False)), ("remove", "o"), ("switch", "flat"), ("load", "sco")):
            with self.assertRaises(InvalidEvent):
                history_of(shop(), good[:2] + (last,))
        with self.assertRaises(InvalidEvent):
            history_of(shop(), list(good))

    def test_rows_of_equal_triples(self):
        path = (("add", "c"), ("add", "b"), ("add", "b"), ("remove", "b", (True, (1,), True)), ("add", "b"))
        snapshots = [self.behind(shop(), path[:many + 1]) for many in range(5)]
        self.check(shop(), path + (("add", "i"), ("add", "o")),
                   snapshots + [self.behind(shop(), path + rest) for rest in ((("add", "i"),),
                                                                              (("add", "i"), ("add", "o")))])

    def test_counterexamples_do_what_they_say(self):
        word, events = counterexample_of(lost())
        self.assertEqual((word, first_wrong(lost(), events)), ("counterexample", 3))
        self.assertEqual(len(run(lost(), events)), 3)


if __name__ == "__main__":
    unittest.main()
