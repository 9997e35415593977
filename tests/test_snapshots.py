import itertools
import unittest

from shelfroutes.check.snapshots import (due_at, events_at, first_snapshot, is_right, is_snapshot, output_change,
                                         snapshot_after, snapshot_of)
from shelfroutes.errors import InvalidEvent, InvalidOperation, InvalidScheme, InvalidSnapshot
from shelfroutes.plan.schemes import Scheme
from shelfroutes.query.queries import Query
from shelfroutes.run.engine import Engine
from tests.shop import lost, shop
from tests.test_engine import STORES, pair_query, scheme_of, started
from tests.values import everything, those_not

LATE = ("wide", ("in", "out", "in"), (1, 0, 0, 1), (), ((None, ()),))
SHUT = ("flat", ("in", "in", "in"), (1, 0, 1, 1), (), ((None, ((True, (1,), True),)),))
# A scheme with a lazy store, a lasting table, a flag and a counter.
ROUTES = {"add c": ["update sc, join sd, update l, some f, none n, emit"], "add d": ["update sd"],
          "remove c": ["update sc"], "add e": ["update se, join sc, count f, join sd, none n, emit"],
          "remove e": ["update se"], "add f": ["update sf"]}


def wide_scheme():
    stores = {**STORES, "f": ("flag", "e"), "n": ("counter", "f"), "se": ("plain", ("e",)), "sf": ("plain", ("f",)),
              "sg": ("plain", ("f",))}
    return scheme_of(pair_query("some", "none"), stores, {"p": ROUTES, "q": {}}, {"p q": "", "q p": "clear sf"},
                     lasting=("m", "tf"))


WIDE = ("p", ("in", "in"), (0, 1, 1, 1), (False,), ((True, ((True, (1,), False),)), (None, ((True, (1, 2), True),))))


def optional_scheme(kind="counter", plans=None, transitions=None):
    stores = {**STORES, "n": (kind, "e"), "se": ("plain", ("e",))}
    both = ["update sc, join sd, join se, emit", "join sd, none n, emit"]
    side = ["update se, join sc, join sd, emit", "join sc, count n, join sd, emit"]
    routes = {"add c": ["recount n se"] + both, "remove c": both, "add e": side, "remove e": side,
              "add d": ["update sd"], "remove d": ["update sd"]}
    return scheme_of(pair_query("optional"), stores, plans or {"p": routes}, transitions)


def told_snapshot(scheme, value):
    """Whether a value has the form of a snapshot."""
    query, entries = scheme.query, scheme.stores
    cores = [role for role, (sort, _) in query.roles.items() if sort == "core"]
    sides = [role for role, (sort, _) in query.roles.items() if sort != "core"]
    kept = [entry for entry in entries.values() if entry[0] in ("plain", "lazy") and entry[1][0] in cores]
    lazy = [entry for entry in entries.values() if entry[0] == "lazy"]

    def told(value, many, part):
        return isinstance(value, tuple) and len(value) == many and all(part(one) for one in value)

    def copies(value):
        return type(value) is int and value in (0, 1, 2)

    def boolean(value):
        return type(value) is bool
    if not isinstance(value, tuple) or len(value) != 5:
        return False
    plan, states, held, loaded, listings = value
    if not (isinstance(plan, str) and plan in scheme.plans):
        return False
    if not told(states, len(cores), lambda state: isinstance(state, str) and state in ("out", "in", "gone")):
        return False
    if not told(held, len(kept), copies) or not told(loaded, len(lazy), boolean):
        return False
    if not told(listings, len(sides), lambda pair: isinstance(pair, tuple) and len(pair) == 2):
        return False
    for side, (flag, rows) in zip(sides, listings):
        has_flag = ("flag", side) in entries.values()
        many = sum(entry == ("plain", (side,)) for entry in entries.values())
        if not (boolean(flag) if has_flag else flag is None):
            return False
        if not isinstance(rows, tuple) or len(rows) > 2:
            return False
        for row in rows:
            if not isinstance(row, tuple) or len(row) != 3 or not boolean(row[0]) or not boolean(row[2]):
                return False
            if not told(row[1], many, copies) or not (row[0] or row[2] or any(row[1])) or (has_flag and row[2]):
                return False
        if list(rows) != sorted(rows):
            return False
    return True


def everywhere(value, change):
    """The values that come of changing a tuple or one of its parts, however deep."""
    found = list(change(value))
    if isinstance(value, tuple):
        for at, part in enumerate(value):
            found += [value[:at] + (other,) + value[at + 1:] for other in everywhere(part, change)]
    return found


class Interface(unittest.TestCase):
    def test_where_all_is_defined(self):
        for made in (first_snapshot, is_snapshot, events_at, due_at, snapshot_after, output_change, is_right,
                     snapshot_of):
            self.assertEqual(made.__module__, "shelfroutes.check.snapshots")

    def test_example(self):
        self.assertEqual(
            [events_at(shop(), LATE), snapshot_after(lost(), LATE, ("add", "i"))[1:3], is_right(lost(), LATE, ("add", "i"))],
            [(("add", "b"), ("add", "i"), ("remove", "c"), ("remove", "o"), ("switch", "flat")),
             (("in", "in", "in"), (1, 0, 1, 1)), False])
        self.assertEqual([due_at(shop(), SHUT), output_change(shop(), SHUT, ("remove", "b", (True, (1,), True)))],
                         [(0, ()), (1, ())])


class Forms(unittest.TestCase):
    def test_first_ones(self):
        self.assertEqual(first_snapshot(shop()), ("flat", ("out",) * 3, (0,) * 4, (), ((None, ()),)))
        self.assertEqual(first_snapshot(shop(first="wide"))[0], "wide")
        self.assertEqual(first_snapshot(wide_scheme()), ("p", ("out", "out"), (0,) * 4, (False,), ((False, ()), (None, ()))))
        for scheme in (shop(), wide_scheme(), optional_scheme()):
            self.assertIs(is_snapshot(scheme, first_snapshot(scheme)), True)

    def test_counters_are_no_stores_of_core_roles(self):
        """Also if the name of a side role begins with that of a core role."""
        query = Query({"k": ("x",), "m": ("x",)}, (("c", "x", "ce", "x"),), c=("core", "k"), ce=("some", "m"))
        stores = {"n": ("counter", "ce"), "sc": ("plain", ("c",)), "se": ("plain", ("ce",))}
        scheme = scheme_of(query, stores, {"p": {"add c": ["update sc"], "add ce": ["update se"]}})
        self.assertEqual(first_snapshot(scheme), ("p", ("out",), (0,), (), ((None, ()),)))
        self.assertEqual(snapshot_after(scheme, first_snapshot(scheme), ("add", "ce"))[4],
                         ((None, ((True, (1,), False),)),))

    def test_values_of_all_kinds(self):
        for scheme in (shop(), wide_scheme(), optional_scheme("flag")):
            for value in everything():
                self.assertIs(is_snapshot(scheme, value), told_snapshot(scheme, value))
        for scheme, good in ((shop(), SHUT), (wide_scheme(), WIDE)):
            self.assertTrue(told_snapshot(scheme, good) and is_snapshot(scheme, good))
            for value in everything():
                for spoilt in everywhere(good, lambda part: [value]):
                    self.assertIs(is_snapshot(scheme, spoilt), told_snapshot(scheme, spoilt), spoilt)

    def test_spoilt_ones(self):
        def changed(part):
            if isinstance(part, tuple):
                return [part[:-1], part + part[-1:], part[::-1], part[1:], list(part), part * 2, ()]
            if isinstance(part, bool) or part is None:
                return [not part, int(bool(part)), None]
            return [0, 1, 2, 3, -1, True, False, "in", "out", "gone", "flat", "q", "x"]
        right = wrong = 0
        for scheme, good in ((shop(), SHUT), (shop(), LATE), (wide_scheme(), WIDE)):
            for value in everywhere(good, changed):
                for spoilt in [value] + everywhere(value, changed)[::17]:
                    told = told_snapshot(scheme, spoilt)
                    self.assertIs(is_snapshot(scheme, spoilt), told, spoilt)
                    right, wrong = right + told, wrong + (not told)
        self.assertGreater(min(right, wrong), 100)

    def test_listed_rows(self):
        def with_rows(*rows):
            return is_snapshot(wide_scheme(), WIDE[:4] + ((WIDE[4][0], (None, rows)),))
        one, two = (False, (0, 1), False), (True, (0, 0), False)
        for rows, told in (((), True), ((one,), True), ((two,), True), ((one, two), True), ((two, one), False),
                           ((one, one), True), ((two, two), True), ((one, one, one), False),
                           (((False, (0, 0), False),), False), (((False, (0, 0), True),), True),
                           (((False, (0,), True),), False), (((False, (0, 3), True),), False)):
            self.assertIs(with_rows(*rows), told, rows)

    def test_flags_count_no_rows(self):
        for flag, row, told in ((True, (True, (1,), False), True), (False, (True, (1,), False), True),
                                (True, (True, (1,), True), False), (None, (True, (1,), False), False)):
            self.assertIs(is_snapshot(wide_scheme(), WIDE[:4] + (((flag, (row,)), (None, ())),)), told)

    def test_schemes(self):
        calls = (is_snapshot, events_at, due_at, lambda *told: snapshot_after(*told, ("add", "i")),
                 lambda *told: output_change(*told, None), lambda *told: is_right(*told, ("add", "i")))
        for value in those_not(lambda value: isinstance(value, Scheme)):
            with self.assertRaises(InvalidScheme):
                first_snapshot(value)
            for call in calls:
                for snapshot in (LATE, None):
                    with self.assertRaises(InvalidScheme):
                        call(value, snapshot)

    def test_snapshots(self):
        calls = (lambda value, event: events_at(shop(), value), lambda value, event: due_at(shop(), value),
                 lambda value, event: snapshot_after(shop(), value, event),
                 lambda value, event: output_change(shop(), value, event),
                 lambda value, event: is_right(shop(), value, event))
        wrong = those_not(lambda value: told_snapshot(shop(), value)) + [WIDE, LATE[:4], ("late",) + LATE[1:]]
        for call in calls:
            for value in wrong:
                for event in (("add", "i"), None):
                    with self.assertRaises(InvalidSnapshot):
                        call(value, event)

    def test_events(self):
        possible = events_at(shop(), SHUT)
        calls = (snapshot_after, output_change, is_right)
        wrong = those_not(lambda value: value in possible)
        wrong += [("remove", "b", (1, (1,), True)), ("remove", "b", (True, (True,), True)), ("remove", "b", (True, (1,), 1)),
                  ("remove", "b", (True, [1], True)), ("remove", "b"), ("remove", "b", (False, (1,), True)), ("add", "c"),
                  ("switch", "flat"), ("load", "sco"), ["remove", "c"], ("remove", "c", None)]
        for call in calls:
            for event in possible:
                call(shop(), SHUT, event)
            for value in wrong:
                with self.assertRaises(InvalidEvent):
                    call(shop(), SHUT, value)


class Possible(unittest.TestCase):
    def test_of_each_kind(self):
        rows = WIDE[4][1][1]
        self.assertEqual(events_at(wide_scheme(), WIDE), (
            ("add", "e"), ("add", "f"), ("load", "l"), ("remove", "c"), ("remove", "e", (True, (1,), False)),
            ("switch", "q")))
        loaded = ("q", ("gone", "out"), (0, 0, 0, 0), (True,), ((False, ()), (None, rows + rows)))
        self.assertEqual(events_at(wide_scheme(), loaded), (
            ("add", "d"), ("add", "e"), ("evict", "l"), ("switch", "p")))

    def test_of_listed_rows(self):
        one, two, gone = (True, (0,), True), (True, (1,), False), (False, (1,), False)
        for rows, told in (((), ["add"]), ((one,), ["add", one]), ((one, one), [one]), ((one, two), [one, two]),
                           ((gone, two), [two]), ((gone, gone), []), ((gone,), ["add"])):
            snapshot = SHUT[:4] + (((None, rows),),)
            found = [event for event in events_at(shop(), snapshot) if event[1] == "b"]
            self.assertEqual(found, [("add", "b") if part == "add" else ("remove", "b", part) for part in told])

    def test_switches_need_a_transition(self):
        scheme = shop(transitions={("flat", "wide"): ()})
        self.assertIn(("switch", "wide"), events_at(scheme, SHUT))
        self.assertNotIn(("switch", "flat"), events_at(scheme, LATE))


class Due(unittest.TestCase):
    def test_some_and_none(self):
        for states, some, none in itertools.product(itertools.product(("in", "out", "gone"), repeat=2),
                                                    ((), (True,), (False,), (False, True)), ((), (True,), (False,))):
            listings = ((True, tuple((is_in, (1,), False) for is_in in some)),
                        (None, tuple((is_in, (1, 1), True) for is_in in none)))
            told = states == ("in", "in") and True in some and True not in none
            self.assertEqual(due_at(wide_scheme(), ("p", states, (0,) * 4, (True,), listings)), (int(told), ()))

    def test_optional(self):
        for states, rows in itertools.product((("in", "in"), ("in", "out"), ("gone", "in")),
                                              ((), (True,), (False,), (False, True), (True, True), (False, False))):
            snapshot = ("p", states, (0,) * 4, (False,), ((None, tuple((is_in, (1,), True) for is_in in rows)),))
            whole = states == ("in", "in")
            self.assertEqual(due_at(optional_scheme(), snapshot),
                             (int(whole and True not in rows), tuple(int(whole and is_in) for is_in in rows)))


class After(unittest.TestCase):
    """Single events."""

    def test_numbers_above_two_become_two(self):
        routes = {"add c": ["update sc, update sc, update sc, join sd, update p, emit"], "add d": ["update sd, update sd"]}
        scheme = scheme_of(pair_query(), STORES, {"p": routes})
        snapshot = snapshot_after(scheme, first_snapshot(scheme), ("add", "d"))
        self.assertEqual(snapshot[2], (0, 0, 0, 2))
        self.assertEqual(output_change(scheme, snapshot, ("add", "c")), (2, ()))
        self.assertIs(is_right(scheme, snapshot, ("add", "c")), False)
        self.assertEqual(snapshot_after(scheme, snapshot, ("add", "c"))[2], (0, 2, 2, 2))

    def test_several_emits(self):
        routes = {"add c": ["update sc, join sd, emit", "join sd, emit", "join sd, emit"], "add d": ["update sd"],
                  "remove c": ["join sd, emit", "join sd, emit", "join sd, emit"]}
        scheme = scheme_of(pair_query(), STORES, {"p": routes})
        snapshot = ("p", ("out", "in"), (0, 0, 0, 1), (False,), ())
        self.assertEqual(output_change(scheme, snapshot, ("add", "c")), (2, ()))
        behind = snapshot_after(scheme, snapshot, ("add", "c"))
        self.assertEqual(output_change(scheme, behind, ("remove", "c")), (-2, ()))
        self.assertEqual(snapshot_after(scheme, behind, ("remove", "c")), ("p", ("gone", "in"), (0, 0, 1, 1), (False,), ()))

    def test_removals_delete_all_copies(self):
        scheme = scheme_of(pair_query(), STORES, {"p": {"remove c": ["update sc", "join sd, update p", "join sd, update l"]}})
        for is_open in (True, False):
            snapshot = ("p", ("in", "in"), (2 if is_open else 0, 2, 2, 0), (is_open,), ())
            self.assertEqual(snapshot_after(scheme, snapshot, ("remove", "c"))[2], (0, 0, 0, 0))

    def test_lazy_stores(self):
        routes = {"add c": ["update sc, join sd, update l"], "add d": ["update sd, join sc, update l"]}
        scheme = scheme_of(pair_query(), STORES, {"p": routes, "q": {}}, {"p q": "clear l", "q p": "fill p sc sd"})
        snapshot = ("p", ("in", "out"), (0, 0, 2, 0), (False,), ())
        behind = snapshot_after(scheme, snapshot, ("add", "d"))
        self.assertEqual(behind[2:4], ((0, 0, 2, 1), (False,)))
        loaded = snapshot_after(scheme, behind, ("load", "l"))
        self.assertEqual(loaded[2:4], ((2, 0, 2, 1), (True,)))
        self.assertEqual(snapshot_after(scheme, loaded, ("evict", "l")), behind)
        self.assertEqual(snapshot_after(scheme, loaded, ("switch", "q"))[:4], ("q",) + behind[1:4])
        early = snapshot_after(scheme, snapshot, ("load", "l"))
        self.assertEqual(snapshot_after(scheme, early, ("add", "d"))[2:4], ((2, 0, 2, 1), (True,)))

    def test_what_lazy_stores_show(self):
        query = Query({"k": ("x",), "m": ("x",), "n": ("x",)}, (), a=("core", "n"), c=("core", "k"), d=("core", "m"))
        stores = {"la": ("lazy", ("c", "d"), "c", "x", "sc", "sd"), "lb": ("lazy", ("a", "c", "d"), "a", "x", "la", "sa"),
                  "p": ("plain", ("a", "c", "d")), "sa": ("plain", ("a",)), "sc": ("plain", ("c",)), "sd": ("plain", ("d",))}
        scheme = scheme_of(query, stores, {"p": {}, "q": {"add a": ["join la, emit"]}}, {"p q": "fill p la sa"})
        for copies, loaded, shown, filled in (((0, 0, 0, 1, 1, 2), (False, False), 2, 2),
                                              ((1, 0, 0, 1, 0, 2), (True, False), 1, 1),
                                              ((0, 0, 0, 1, 1, 1), (True, True), 0, 0),
                                              ((0, 1, 0, 0, 2, 2), (False, True), 2, 0)):
            snapshot = ("p", ("out", "in", "in"), copies, loaded, ())
            self.assertEqual(output_change(scheme, ("q",) + snapshot[1:], ("add", "a")), (shown, ()))
            self.assertEqual(snapshot_after(scheme, snapshot, ("switch", "q"))[2][2], filled)
            if not loaded[0]:
                self.assertEqual(snapshot_after(scheme, snapshot, ("load", "la"))[2][0], min(2, copies[4] * copies[5]))
            if not loaded[1]:
                self.assertEqual(snapshot_after(scheme, snapshot, ("load", "lb"))[2][1], min(2, shown * copies[3]))

    def test_transitions(self):
        stores = {**STORES, "n": ("counter", "e"), "se": ("plain", ("e",))}
        flagged = {**stores, "n": ("flag", "e")}

        def behind(text, rows, copies=(0, 1, 1, 2), stores=stores, flag=None):
            scheme = scheme_of(pair_query("some"), stores, {"p": {}, "q": {}}, {"p q": text})
            snapshot = ("p", ("in", "in"), copies, (False,), ((flag, rows),))
            self.assertTrue(is_right(scheme, snapshot, ("switch", "q")))
            self.assertEqual(output_change(scheme, snapshot, ("switch", "q")), (0, ()))
            return snapshot_after(scheme, snapshot, ("switch", "q"))[2:]
        rows = ((False, (0,), True), (True, (1,), False))
        self.assertEqual(behind("fill p sd sc", rows), ((0, 2, 1, 2), (False,), ((None, rows),)))
        self.assertEqual(behind("append p sd sc", rows, (0, 1, 1, 0)), ((0, 1, 1, 0), (False,), ((None, rows),)))
        self.assertEqual(behind("append p sd sc", rows, (0, 1, 1, 1)), ((0, 2, 1, 1), (False,), ((None, rows),)))
        self.assertEqual(behind("clear sd, append p sd sc", rows), ((0, 1, 1, 0), (False,), ((None, rows),)))
        self.assertEqual(behind("recount n sc se", rows)[2], ((None, ((True, (1,), True),)),))
        self.assertEqual(behind("recount n sc se", rows, (0, 1, 0, 2))[2], ((None, ((True, (1,), False),)),))
        self.assertEqual(behind("reset n", rows)[2], ((None, ((True, (1,), False),)),))
        self.assertEqual(behind("clear se", rows)[2], ((None, ((False, (0,), True), (True, (0,), False))),))
        self.assertEqual(behind("clear se, reset n", rows)[2], ((None, ((True, (0,), False),)),))
        plain_rows = ((False, (1,), False), (True, (0,), False))
        for text, copies, flag in (("recount n sc se", (0, 1, 1, 2), True), ("recount n sc se", (0, 1, 0, 2), False),
                                   ("reset n", (0, 1, 1, 2), False), ("", (0, 1, 1, 2), True),
                                   ("clear se, recount n sc se", (0, 1, 1, 2), False)):
            rows = plain_rows if "clear" not in text else plain_rows[1:]
            self.assertEqual(behind(text, rows, copies, flagged, True)[2], ((flag, rows),))

    def test_counts(self):
        routes = {"add e": ["update se, join sc, count n, join sd, emit"], "remove e": ["join sc, count n, join sd, emit"]}
        stores = {**STORES, "n": ("counter", "e"), "se": ("plain", ("e",))}
        scheme = scheme_of(pair_query("some"), stores, {"p": routes})

        def at(rows, copies=(0, 0, 1, 1)):
            return ("p", ("in", "in"), copies, (False,), ((None, rows),))
        counted, held = (True, (1,), True), (True, (1,), False)
        for rows, event, change, behind in (
                ((), ("add", "e"), 1, (counted,)), ((counted,), ("add", "e"), 0, (counted, counted)),
                ((held,), ("add", "e"), 1, (held, counted)), ((counted,), ("remove", "e", counted), -1, ((False, (1,), False),)),
                ((counted, counted), ("remove", "e", counted), 0, ((False, (1,), False), counted)),
                ((held, counted), ("remove", "e", held), 0, ((False, (1,), False), counted)),
                ((held, counted), ("remove", "e", counted), -1, ((False, (1,), False), held))):
            self.assertEqual(output_change(scheme, at(rows), event), (change, ()))
            self.assertEqual(snapshot_after(scheme, at(rows), event), at(behind))
        self.assertEqual(snapshot_after(scheme, at((), (0, 0, 0, 1)), ("add", "e")), at((held,), (0, 0, 0, 1)))
        flagged = scheme_of(pair_query("some"), {**stores, "n": ("flag", "e")}, {"p": routes})
        for flag, event, change, behind in ((False, ("add", "e"), 1, True), (True, ("add", "e"), 0, True),
                                            (True, ("remove", "e", held), -1, False), (False, ("remove", "e", held), 0, False)):
            snapshot = ("p", ("in", "in"), (0, 0, 1, 1), (False,), ((flag, (held,)),))
            self.assertEqual(output_change(flagged, snapshot, event), (change, ()))
            self.assertEqual(snapshot_after(flagged, snapshot, event)[4][0][0], behind)

    def test_optional_rows(self):
        scheme = optional_scheme()
        in_row, gone = (True, (1,), True), (False, (1,), False)

        def at(states, copies, rows):
            return ("p", states, copies, (False,), ((None, rows),))
        for snapshot, event, change, right in (
                (at(("out", "in"), (0, 0, 0, 1), ()), ("add", "c"), (1, ()), True),
                (at(("out", "in"), (0, 0, 0, 1), (in_row,)), ("add", "c"), (0, (1,)), True),
                (at(("out", "in"), (0, 0, 0, 2), (in_row,)), ("add", "c"), (0, (2,)), False),
                (at(("out", "in"), (0, 0, 0, 1), (gone, in_row)), ("add", "c"), (0, (1, 1)), False),
                (at(("out", "in"), (0, 0, 0, 1), (in_row, in_row)), ("add", "c"), (0, (1, 1)), True),
                (at(("in", "in"), (0, 0, 1, 1), ()), ("add", "e"), (-1, (1,)), True),
                (at(("in", "in"), (0, 0, 1, 1), (in_row,)), ("add", "e"), (0, (0, 1)), True),
                (at(("in", "in"), (0, 0, 1, 1), (in_row,)), ("remove", "e", in_row), (1, (-1,)), True),
                (at(("in", "in"), (0, 0, 1, 1), (in_row, in_row)), ("remove", "e", in_row), (0, (-1, 0)), True),
                (at(("in", "in"), (0, 0, 1, 1), (in_row,)), ("remove", "c"), (0, (-1,)), True),
                (at(("in", "in"), (0, 0, 1, 1), ()), ("remove", "c"), (-1, ()), True),
                (at(("in", "in"), (0, 0, 1, 1), ()), ("remove", "d"), (0, ()), False),
                (at(("out", "in"), (0, 0, 0, 1), ()), ("add", "e"), (0, (0,)), True)):
            self.assertEqual(output_change(scheme, snapshot, event), change, snapshot)
            self.assertIs(is_right(scheme, snapshot, event), right)
        behind = snapshot_after(scheme, at(("in", "in"), (0, 0, 1, 1), (in_row, in_row)), ("remove", "e", in_row))
        self.assertEqual(behind, at(("in", "in"), (0, 0, 1, 1), (in_row,)))

    def test_rows_that_are_not_listed_any_more(self):
        scheme = scheme_of(pair_query("some"), {**STORES, "n": ("counter", "e")}, {"p": {}})
        snapshot = snapshot_after(scheme, first_snapshot(scheme), ("add", "e"))
        self.assertEqual(snapshot[4], ((None, ((True, (), False),)),))
        self.assertEqual(snapshot_after(scheme, snapshot, ("remove", "e", (True, (), False))), first_snapshot(scheme))

    def test_recounts(self):
        stores = {**STORES, "n": ("counter", "e"), "se": ("plain", ("e",)), "st": ("plain", ("e",))}
        routes = {"add c": ["recount n st"], "add d": ["join sc, update p"]}
        rows = ((False, (0, 2), False), (True, (1, 0), True))
        scheme = scheme_of(pair_query("some"), stores, {"p": routes})
        snapshot = ("p", ("out", "in"), (0, 0, 1, 1), (False,), ((None, rows),))
        self.assertEqual(snapshot_after(scheme, snapshot, ("add", "c"))[4],
                         ((None, ((False, (0, 2), True), (True, (1, 0), False))),))
        scheme = scheme_of(pair_query("some"), {**stores, "n": ("flag", "e")}, {"p": routes})
        for rows, flag in ((((False, (0, 2), False),), True), (((True, (2, 0), False),), False), ((), False)):
            snapshot = ("p", ("out", "in"), (0, 0, 1, 1), (False,), ((True, rows),))
            self.assertEqual(snapshot_after(scheme, snapshot, ("add", "c"))[4], ((flag, rows),))

    def test_a_recount_without_a_match(self):
        query = Query({"k": ("x",), "m": ("x",), "n": ("x", "y")}, (("c", "x", "e", "x"), ("d", "x", "e", "y")),
                      c=("core", "k"), d=("core", "m"), e=("some", "n"))
        stores = {"n": ("counter", "e"), "sd": ("plain", ("d",)), "se": ("plain", ("e",))}
        scheme = scheme_of(query, stores, {"p": {"add c": ["join sd, recount n se"]}})
        rows = ((True, (1,), False),)
        for copies, counted in ((0, False), (1, True), (2, True)):
            snapshot = ("p", ("out", "in"), (copies,), (), ((None, rows),))
            self.assertEqual(snapshot_after(scheme, snapshot, ("add", "c"))[4], ((None, ((True, (1,), counted),)),))

    def test_events_change_no_snapshot(self):
        before = repr(SHUT)
        for event in events_at(shop(), SHUT):
            snapshot_after(shop(), SHUT, event)
        self.assertEqual(repr(SHUT), before)


class OfEngines(unittest.TestCase):
    def test_states_and_copies(self):
        engine = started()
        rows = {"c": 1, "i": 3, "o": 2}
        self.assertEqual(snapshot_of(engine, rows, {}), ("wide", ("in",) * 3, (1, 1, 1, 1), (), ((None, ()),)))
        engine.add("block", (5,))
        engine.remove(2)
        self.assertEqual(snapshot_of(engine, rows, {"b": ()}), ("wide", ("in", "in", "gone"), (1, 0, 1, 0), (), ((None, ()),)))
        self.assertEqual(snapshot_of(engine, rows, {"b": (4,)})[4], ((None, ((True, (1,), True),)),))
        engine.remove(4)
        self.assertEqual(snapshot_of(engine, rows, {"b": (4,)})[4], ((None, ()),))

    def test_wrong_arguments(self):
        engine = started()
        for row in ((5,), (5,), (5,), (6,)):
            engine.add("block", row)
        engine.remove(1)
        good = {"c": 1, "i": 3, "o": 2}
        self.assertEqual(len(snapshot_of(engine, good, {"b": (4, 6)})[4][0][1]), 2)
        for value in those_not(lambda value: isinstance(value, Engine)):
            for rows, further in ((good, {}), (None, {}), (None, None)):
                with self.assertRaises(InvalidOperation):
                    snapshot_of(value, rows, further)
        wrong = everything() + [{}, {"c": 1, "i": 3}, {**good, "b": 4}, {**good, "x": 1}, [("c", 1)]]
        wrong += [{**good, "c": value} for value in those_not(lambda value: value == 1)]
        wrong += [{**good, "c": value} for value in (True, 2, 3, 9, 0)] + [{**good, "i": 1}, {"c": 1, "i": 3, "x": 2}]
        for value in wrong:
            for further in ({}, None):
                with self.assertRaises(InvalidOperation):
                    snapshot_of(engine, value, further)
        wrong = [value for value in everything() if value != {}] + [{"c": (1,)}, {"x": ()}, {"b": (7,)}, {"b": (4, 7)}]
        wrong += [{"b": value} for value in (4, [4], (5, 4), (4, 4), (4, 5, 6), (1,), (True,), (9,), (0,), None, ("4",))]
        wrong += [{"b": (value,)} for value in those_not(lambda value: False)]
        for value in wrong:
            with self.assertRaises(InvalidOperation):
                snapshot_of(engine, good, value)

    def test_no_full_match(self):
        engine = started()
        engine.add("cus", (2, 5))
        with self.assertRaises(InvalidOperation):
            snapshot_of(engine, {"c": 4, "i": 3, "o": 2}, {})

    def test_flags_and_lazy_stores(self):
        engine = Engine(wide_scheme())
        for event in (("load", "l", 5), ("add", "k", (1, 5)), ("add", "m", (1, 0)), ("add", "te", (5,)), ("add", "tf", (5,))):
            engine(event)
        rows = {"c": 1, "d": 2}
        told = ("p", ("in", "in"), (0, 0, 1, 1), (True,), ((True, ()), (None, ())))
        self.assertEqual(snapshot_of(engine, rows, {}), told)
        listings = ((True, ((True, (1,), False),)), (None, ((True, (1, 0), False),)))
        self.assertEqual(snapshot_of(engine, rows, {"f": (4,), "e": (3,)}), told[:4] + (listings,))
        engine.evict("l", 5)
        self.assertEqual(snapshot_of(engine, rows, {})[3], (False,))


if __name__ == "__main__":
    unittest.main()
