import unittest

from shelfroutes.base.bags import Bag
from shelfroutes.errors import (InvalidEvent, InvalidNumber, InvalidOperation, InvalidRow, InvalidScheme, NothingToUndo,
                                TooMany, UnknownKey, UnknownName)
from shelfroutes.plan.plans import Plan
from shelfroutes.plan.schemes import Scheme
from shelfroutes.query.queries import Query
from shelfroutes.query.worlds import World
from shelfroutes.run.engine import MAX_ROWS, Engine
from tests.shop import lost, shop, shop_query, steps
from tests.test_histories import told_event
from tests.values import LONGEST, TOO_LONG, everything, those_not, whole

START = (("add", "cus", (1, 5)), ("add", "ord", (1, 7)), ("switch", "wide"), ("add", "item", (7,)))


def started():
    engine = Engine(shop())
    for event in START:
        engine(event)
    return engine


def scheme_of(query, stores, plans, transitions=None, lasting=()):
    """A scheme whose plans are dicts from words like "add c" to pipelines; the least plan is the first one."""
    made = {}
    for name, routes in plans.items():
        made[name] = Plan({tuple(pair.split()): tuple(steps(text) for text in texts) for pair, texts in routes.items()})
    changes = {tuple(pair.split()): steps(text) for pair, text in (transitions or {}).items()}
    return Scheme(query, lasting=lasting, stores=stores, plans=made, transitions=changes, first=min(plans))


def pair_query(*sides):
    """Core roles c and d of tables k and m with columns x and y, and side roles of tables of their own."""
    roles = {"c": ("core", "k"), "d": ("core", "m")}
    tables = {"k": ("x", "y"), "m": ("x", "y")}
    tests = [("c", "x", "d", "x")]
    for letter, sort in zip("ef", sides):
        roles[letter] = (sort, "t" + letter)
        tables["t" + letter] = ("x",)
        tests.append(("c", "y", letter, "x"))
    return Query.of(tables, tuple(sorted(tests)), roles)


STORES = {"l": ("lazy", ("c", "d"), "c", "y", "sc", "sd"), "p": ("plain", ("c", "d")), "sc": ("plain", ("c",)),
          "sd": ("plain", ("d",))}


class Interface(unittest.TestCase):
    def test_constant(self):
        self.assertEqual(MAX_ROWS, 100)

    def test_members_are_defined_in_the_class(self):
        self.assertEqual(Engine.__module__, "shelfroutes.run.engine")
        for name in ("__init__", "add", "remove", "switch", "load", "evict", "__iadd__", "__isub__", "plan", "__call__",
                     "scheme", "output", "moves", "news", "world", "is_right", "held", "loaded", "counted",
                     "__getitem__", "__contains__", "__len__", "log", "undo", "redo", "trial", "during", "twin",
                     "__eq__", "__str__"):
            self.assertIn(name, vars(Engine))

    def test_example(self):
        engine = Engine(shop())
        self.assertEqual(
            [engine.add("cus", (1, 5)), engine.add("ord", (1, 7)), len(engine.switch("wide")), engine.add("item", (7,)),
             engine.output.pairs()], [1, 2, 0, 3, (((1, 3, 2), 1),)])
        self.assertEqual(
            [engine.add("block", (5,)), engine.moves, engine.counted("nb"), engine.held("sco").pairs(),
             engine.is_right(), engine.undo(many=2)],
            [4, (("b", (1, 3, 2), -1),), {(1,): (4,)}, (((1, 2), 1),), True, 3])

    def test_lost(self):
        engine = Engine(lost())
        for event in START[:3]:
            engine(event)
            self.assertTrue(engine.is_right())
        engine(START[3])
        self.assertEqual((engine.output, engine.is_right()), (Bag(), False))

    def test_schemes(self):
        for value in those_not(lambda value: isinstance(value, Scheme)):
            with self.assertRaises(InvalidScheme):
                Engine(value)


class New(unittest.TestCase):
    def test_all_is_empty(self):
        engine = Engine(shop())
        self.assertEqual((engine.scheme, engine.plan, engine.output, engine.moves, engine.news, engine.world),
                         (shop(), "flat", Bag(), (), Bag(), World(shop_query())))
        self.assertEqual((len(engine), engine.log, engine.is_right(), engine.counted("nb")), (0, (), True, {}))
        self.assertEqual([engine.held(store) for store in ("sb", "sc", "sco", "si", "so")], [Bag()] * 5)
        self.assertEqual(str(engine), "engine with the plan flat, 0 rows, 0 results")


class Events(unittest.TestCase):
    def test_add_errors_in_their_order(self):
        engine = started()
        before = engine.twin()
        for value in those_not(lambda value: isinstance(value, str) and value in engine.scheme.query.tables):
            for row in ((1, 5), None):
                with self.assertRaises(UnknownName) as caught:
                    engine.add(value, row)
                self.assertIs(caught.exception.name, value)
        right = lambda value: isinstance(value, tuple) and len(value) == 2 and all(whole(part) for part in value)
        for value in those_not(right) + [(1,), (1, 2, 3), (1, TOO_LONG)]:
            with self.assertRaises(InvalidRow):
                engine.add("cus", value)
        self.assertEqual((engine, engine.log), (before, before.log))
        self.assertEqual(engine.add("cus", (LONGEST, -LONGEST)), 4)

    def test_a_hundred_rows(self):
        engine = Engine(shop())
        for key in range(1, 101):
            self.assertEqual(engine.add("item", (1,)), key)
        for call in (lambda: engine.add("item", (1,)), lambda: engine(("add", "item", (1,)))):
            with self.assertRaises(TooMany) as caught:
                call()
            self.assertEqual(caught.exception.limit, 100)
        with self.assertRaises(InvalidRow):
            engine.add("item", (1, 2))
        with self.assertRaises(UnknownName):
            engine.add("none", (1,))
        engine.remove(50)
        self.assertEqual((engine.add("item", (1,)), len(engine), len(engine.log)), (101, 100, 102))

    def test_keys_are_never_used_again(self):
        engine = Engine(shop())
        engine.add("item", (1,))
        engine.remove(1)
        self.assertEqual((engine.add("item", (1,)), 1 in engine, 2 in engine), (2, False, True))

    def test_remove_errors(self):
        engine = started()
        engine.remove(2)
        before = engine.twin()
        for value in those_not(lambda value: whole(value) and value in (1, 3)) + [2, 4, 0, -1]:
            for call in (lambda: engine.remove(value), lambda: engine.__isub__(value)):
                with self.assertRaises(UnknownKey) as caught:
                    call()
                self.assertIs(caught.exception.key, value)
        self.assertEqual((engine, engine.log), (before, before.log))

    def test_lasting_rows(self):
        query = pair_query()
        engine = Engine(scheme_of(query, STORES, {"p": {"add c": ["update sc"]}}, lasting=("k",)))
        engine.add("k", (1, 1))
        engine.add("m", (1, 1))
        with self.assertRaises(InvalidOperation):
            engine.remove(1)
        with self.assertRaises(UnknownKey):
            engine.remove(3)
        self.assertEqual((len(engine), len(engine.remove(2)), len(engine)), (2, 0, 1))

    def test_switch_errors(self):
        engine = Engine(shop(transitions={("flat", "wide"): ()}))
        for value in those_not(lambda value: value in ("flat", "wide")):
            for call in (lambda: engine.switch(value), lambda: setattr(engine, "plan", value)):
                with self.assertRaises(UnknownName) as caught:
                    call()
                self.assertIs(caught.exception.name, value)
        with self.assertRaises(InvalidOperation):
            engine.switch("flat")
        engine.switch("wide")
        for name in ("flat", "wide"):
            with self.assertRaises(InvalidOperation):
                engine.plan = name
        self.assertEqual((engine.plan, engine.log), ("wide", (("switch", "wide"),)))

    def test_load_errors(self):
        engine = Engine(scheme_of(pair_query(), STORES, {"p": {}}))
        for call in (engine.load, engine.evict):
            for value in those_not(lambda value: value == "l") + ["p", "sc"]:
                for key in (1, None):
                    with self.assertRaises(UnknownName) as caught:
                        call(value, key)
                    self.assertIs(caught.exception.name, value)
            for value in those_not(whole):
                with self.assertRaises(InvalidNumber) as caught:
                    call("l", value)
                self.assertIs(caught.exception.value, value)
        self.assertEqual(engine.log, ())
        for key in (0, -5, LONGEST):
            self.assertEqual(engine.load("l", key), Bag())
        self.assertEqual(engine.loaded("l"), (-5, 0, LONGEST))

    def test_signs(self):
        engine = same = Engine(shop())
        engine += ("cus", (1, 5))
        engine += ("ord", (1, 7))
        engine.plan = "wide"
        engine += ("item", (7,))
        self.assertIs(engine, same)
        self.assertEqual((engine, engine.log, engine.news.pairs()), (started(), START, (((1, 3, 2), 1),)))
        engine -= 2
        self.assertIs(engine, same)
        self.assertEqual((engine.log[-1], engine.news.pairs()), (("remove", 2), (((1, 3, 2), -1),)))

    def test_sign_errors(self):
        engine = started()
        for value in those_not(lambda value: isinstance(value, tuple) and len(value) == 2):
            with self.assertRaises(InvalidOperation):
                engine += value
        for value, error in ((("none", (1,)), UnknownName), (("item", (1, 2)), InvalidRow), ((1, 1), UnknownName)):
            with self.assertRaises(error):
                engine += value
        self.assertEqual(engine, started())

    def test_calls(self):
        engine = Engine(shop())
        news = [engine(event).pairs() for event in START]
        self.assertEqual(news, [(), (), (), (((1, 3, 2), 1),)])
        self.assertEqual((engine.log, engine(("remove", 3)).pairs()), (START, (((1, 3, 2), -1),)))

    def test_call_errors(self):
        engine = started()
        for value in those_not(told_event):
            with self.assertRaises(InvalidEvent):
                engine(value)
        for event, error in ((("add", "none", (1,)), UnknownName), (("add", "cus", (1,)), InvalidRow),
                             (("remove", 0), UnknownKey), (("switch", "none"), UnknownName),
                             (("switch", "wide"), InvalidOperation), (("load", "sco", 1), UnknownName),
                             (("evict", "none", 1), UnknownName)):
            with self.assertRaises(error):
                engine(event)
        self.assertEqual((engine, engine.log), (started(), START))


class Steps(unittest.TestCase):
    """Each kind of step, by itself."""

    def test_updates_count_as_often_as_matches_come(self):
        scheme = scheme_of(pair_query(), STORES, {"p": {
            "add c": ["update sc, update sc", "update sc"], "add d": ["join sc, update p"], "remove c": ["update sc"],
            "remove d": ["join sc, update p"]}})
        engine = Engine(scheme)
        engine.add("k", (1, 0))
        engine.add("m", (1, 0))
        self.assertEqual([engine.held("sc").pairs(), engine.held("p").pairs()], [(((1,), 3),), (((1, 2), 3),)])
        engine.remove(1)
        self.assertEqual([engine.held("sc").pairs(), engine.held("p").pairs()], [(), (((1, 2), 3),)])
        engine.remove(2)
        self.assertEqual(engine.held("p").pairs(), ())

    def test_a_removal_deletes_also_if_no_match_comes(self):
        scheme = scheme_of(pair_query(), STORES, {"p": {
            "add c": ["update sc"], "add d": ["join sc, update p"], "remove c": ["update sc", "join sd, update p"]}})
        engine = Engine(scheme)
        for event in (("add", "k", (1, 0)), ("add", "k", (1, 0)), ("add", "m", (1, 0)), ("remove", 1)):
            engine(event)
        self.assertEqual(engine.held("p").pairs(), (((2, 3), 1),))

    def test_moves_of_several_emits(self):
        scheme = scheme_of(pair_query(), STORES, {"p": {
            "add c": ["update sc"], "add d": ["join sc, emit", "join sc, emit", "update sd"],
            "remove c": ["join sd, emit"]}})
        engine = Engine(scheme)
        engine.add("k", (1, 0))
        engine.add("m", (1, 0))
        self.assertEqual((engine.moves, engine.output.pairs(), engine.is_right()),
                         ((("d", (1, 2), 2),), (((1, 2), 2),), False))
        engine.remove(1)
        self.assertEqual((engine.moves, engine.output.pairs()), ((("c", (1, 2), -1),), (((1, 2), 1),)))
        self.assertEqual((engine.news.pairs(), engine.is_right()), ((((1, 2), -1),), False))

    def test_output_below_zero(self):
        engine = Engine(scheme_of(pair_query(), STORES, {"p": {
            "add c": ["update sc"], "remove d": ["join sc, emit"]}}))
        for event in (("add", "k", (1, 0)), ("add", "m", (1, 0)), ("remove", 2)):
            engine(event)
        self.assertEqual((engine.output.pairs(), str(engine)), ((((1, 2), -1),), "engine with the plan p, 1 rows, 1 results"))

    def test_one_row_in_two_roles(self):
        """Through the roles in ascending order; the second one finds what the first one has left."""
        query = Query({"k": ("x",)}, (("c", "x", "d", "x"),), c=("core", "k"), d=("core", "k"))
        stores = {"sc": ("plain", ("c",)), "sd": ("plain", ("d",))}
        routes = {"add c": ["update sc, join sd, emit"], "add d": ["update sd, join sc, emit"],
                  "remove c": ["update sc, join sd, emit"], "remove d": ["update sd, join sc, emit"]}
        engine = Engine(scheme_of(query, stores, {"p": routes}))
        engine.add("k", (1,))
        self.assertEqual(engine.moves, (("d", (1, 1), 1),))
        engine.add("k", (1,))
        self.assertEqual(engine.moves, (("c", (2, 1), 1), ("d", (1, 2), 1), ("d", (2, 2), 1)))
        self.assertTrue(engine.is_right())
        engine.remove(1)
        self.assertEqual(engine.moves, (("c", (1, 1), -1), ("c", (1, 2), -1), ("d", (2, 1), -1)))
        self.assertTrue(engine.is_right())

    def test_counts_and_flags(self):
        routes = {"add c": ["update sc"], "add d": ["update sd"], "remove c": [], "remove d": [],
                  "add e": ["join sc, count n, join sd, emit"], "remove e": ["join sc, count n, join sd, emit"]}
        for kind in ("counter", "flag"):
            engine = Engine(scheme_of(pair_query("some"), {**STORES, "n": (kind, "e")}, {"p": routes}))
            for event in (("add", "k", (1, 5)), ("add", "k", (1, 6)), ("add", "m", (1, 0))):
                engine(event)
            engine.add("te", (5,))
            self.assertEqual(engine.moves, (("e", (1, 3), 1),))
            engine.add("te", (5,))
            self.assertEqual(engine.moves, ())
            self.assertEqual(engine.counted("n"), {(1,): (4, 5) if kind == "counter" else True})
            engine.remove(4)
            # A flag does not remember how many rows there were.
            self.assertEqual(engine.moves, () if kind == "counter" else (("e", (1, 3), -1),))
            engine.remove(5)
            self.assertEqual(engine.moves, (("e", (1, 3), -1),) if kind == "counter" else ())
            self.assertEqual(engine.counted("n"), {})

    def test_recounts(self):
        routes = {"add e": ["update se"], "add c": ["recount n se, some n, update sc"], "remove e": []}
        for kind in ("counter", "flag"):
            stores = {**STORES, "n": (kind, "e"), "se": ("plain", ("e",))}
            engine = Engine(scheme_of(pair_query("some"), stores, {"p": {**routes, "add c": [
                "recount n se", "update sc"]}}))
            for event in (("add", "te", (5,)), ("add", "te", (5,)), ("add", "te", (6,)), ("remove", 1)):
                engine(event)
            engine.add("k", (1, 5))
            engine.add("k", (1, 7))
            # Row 1 has left, but the store still holds it.
            self.assertEqual(engine.counted("n"), {(5 - 1,): (1, 2)} if kind == "counter" else {(4,): True})

    def test_some_and_none(self):
        stores = {**STORES, "n": ("counter", "e"), "se": ("plain", ("e",))}
        routes = {"add e": ["update se"], "add c": ["recount n se", "update sc", "some n, join sd, emit"],
                  "add d": ["update sd, join sc, none n, emit"]}
        engine = Engine(scheme_of(pair_query("some"), stores, {"p": routes}))
        for event in (("add", "te", (5,)), ("add", "k", (1, 5)), ("add", "k", (1, 6)), ("add", "m", (1, 0))):
            engine(event)
        self.assertEqual(engine.moves, (("d", (3, 4), 1),))
        engine.add("k", (1, 5))
        self.assertEqual(engine.moves, (("c", (5, 4), 1),))
        engine.add("k", (1, 6))
        self.assertEqual(engine.moves, ())

    def test_optional_roles(self):
        stores = {**STORES, "n": ("counter", "e"), "se": ("plain", ("e",))}
        both = ["update sc, join sd, join se, emit", "join sd, none n, emit"]
        side = ["update se, join sc, join sd, emit", "join sc, count n, join sd, emit"]
        routes = {"add c": ["recount n se"] + both, "remove c": both, "add e": side, "remove e": side,
                  "add d": ["update sd"], "remove d": ["update sd"]}
        engine = Engine(scheme_of(pair_query("optional"), stores, {"p": routes}))
        moves = []
        for event in (("add", "m", (1, 0)), ("add", "k", (1, 5)), ("add", "te", (5,)), ("add", "te", (5,)),
                      ("remove", 3), ("remove", 4), ("add", "te", (5,)), ("remove", 2)):
            engine(event)
            moves.append(engine.moves)
            self.assertTrue(engine.is_right())
        self.assertEqual(moves, [
            (), (("c", (2, 1, None), 1),), (("e", (2, 1, None), -1), ("e", (2, 1, 3), 1)), (("e", (2, 1, 4), 1),),
            (("e", (2, 1, 3), -1),), (("e", (2, 1, None), 1), ("e", (2, 1, 4), -1)),
            (("e", (2, 1, None), -1), ("e", (2, 1, 5), 1)), (("c", (2, 1, 5), -1),)])

    def test_rows_that_left_stay_in_stores_that_are_not_updated(self):
        engine = Engine(scheme_of(pair_query(), STORES, {"p": {"add c": ["update sc"], "add d": ["join sc, emit"]}}))
        for event in (("add", "k", (1, 0)), ("remove", 1), ("add", "m", (1, 0))):
            engine(event)
        self.assertEqual((engine.output.pairs(), engine.is_right()), ((((1, 2), 1),), False))


class Lazy(unittest.TestCase):
    def engine(self):
        routes = {"add c": ["update sc, join sd, update l"], "add d": ["update sd, join sc, update l"],
                  "remove c": ["update sc", "join sd, update l"], "remove d": ["update sd, join sc, update l"]}
        query = Query({"k": ("x", "y"), "m": ("x", "y"), "n": ("x",)}, (("c", "x", "d", "x"),), a=("core", "n"),
                      c=("core", "k"), d=("core", "m"))
        plans = {"p": {**routes, "add a": ["join l, emit"]}, "q": {"add a": ["join l, emit"]}}
        return Engine(scheme_of(query, STORES, plans, {"p q": "clear l", "q p": "fill p sd sc"}))

    def test_what_is_held_and_shown(self):
        engine = self.engine()
        for event in (("load", "l", 5), ("add", "k", (1, 5)), ("add", "k", (1, 6)), ("add", "m", (1, 0))):
            engine(event)
        self.assertEqual((engine.held("l").pairs(), engine.loaded("l")), ((((1, 3), 1),), (5,)))
        engine.add("n", (0,))
        self.assertEqual(engine.news.pairs(), (((4, 1, 3), 1), ((4, 2, 3), 1)))
        self.assertEqual((engine.load("l", 6), engine.held("l").pairs()), (Bag(), (((1, 3), 1), ((2, 3), 1))))
        engine.load("l", 7)
        self.assertEqual(engine.loaded("l"), (5, 6, 7))
        engine.evict("l", 5)
        self.assertEqual((engine.held("l").pairs(), engine.loaded("l")), ((((2, 3), 1),), (6, 7)))
        engine.add("n", (0,))
        self.assertEqual(engine.news.pairs(), (((5, 1, 3), 1), ((5, 2, 3), 1)))
        engine.remove(3)
        self.assertEqual((engine.held("l"), engine.loaded("l")), (Bag(), (6, 7)))

    def test_loading_twice_and_evicting_nothing(self):
        engine = self.engine()
        for event in (("add", "k", (1, 5)), ("add", "m", (1, 0)), ("load", "l", 5)):
            engine(event)
        before = engine.twin()
        # What is held is not looked up again: the sources would show a match less.
        for event in (("load", "l", 5), ("evict", "l", 6)):
            self.assertEqual(engine(event), Bag())
            self.assertTrue(engine == before)
        self.assertEqual(len(engine.log), 5)

    def test_clear_unloads(self):
        engine = self.engine()
        for event in (("load", "l", 5), ("add", "k", (1, 5)), ("add", "m", (1, 0)), ("switch", "q")):
            engine(event)
        self.assertEqual((engine.held("l"), engine.loaded("l")), (Bag(), ()))
        engine.add("n", (0,))
        self.assertEqual(engine.news.pairs(), (((3, 1, 2), 1),))
        engine.switch("p")
        self.assertEqual(engine.held("p").pairs(), (((1, 2), 1),))

    def test_lazy_over_lazy(self):
        query = Query({"k": ("x",), "m": ("x",), "n": ("x",)}, (("a", "x", "c", "x"), ("c", "x", "d", "x")),
                      a=("core", "n"), c=("core", "k"), d=("core", "m"))
        stores = {"la": ("lazy", ("c", "d"), "c", "x", "sc", "sd"), "lb": ("lazy", ("a", "c", "d"), "a", "x", "la", "sa"),
                  "p": ("plain", ("a", "c", "d")), "sa": ("plain", ("a",)), "sc": ("plain", ("c",)), "sd": ("plain", ("d",))}
        routes = {"add a": ["update sa, update sa"], "add c": ["update sc"], "add d": ["update sd, update sd"]}
        engine = Engine(scheme_of(query, stores, {"p": routes, "q": routes}, {"p q": "fill p sa la", "q p": ""}))
        for event in (("add", "k", (1,)), ("add", "m", (1,)), ("add", "n", (1,)), ("load", "lb", 1)):
            engine(event)
        self.assertEqual((engine.held("lb").pairs(), engine.held("la").pairs()), ((((3, 1, 2), 4),), ()))
        engine.load("la", 1)
        engine.add("k", (1,))
        # The loaded keys are not kept up by this plan, so what they show is out of date.
        self.assertEqual(engine.held("la").pairs(), (((1, 2), 2),))
        engine.load("lb", 2)
        engine.evict("lb", 1)
        engine.load("lb", 1)
        self.assertEqual(engine.held("lb").pairs(), (((3, 1, 2), 4),))
        engine.switch("q")
        self.assertEqual(engine.held("p").pairs(), (((3, 1, 2), 4),))
        engine.evict("la", 1)
        for plan in "pq":
            engine.switch(plan)
        self.assertEqual(engine.held("p").pairs(), (((3, 1, 2), 4), ((3, 4, 2), 4)))


class Transitions(unittest.TestCase):
    def engine(self, text, kind="counter"):
        stores = {**STORES, "n": (kind, "e"), "se": ("plain", ("e",)), "q": ("plain", ("c", "d"))}
        routes = {"add c": ["update sc"], "add d": ["update sd, update sd"], "add e": ["update se"],
                  "remove e": ["update se"]}
        engine = Engine(scheme_of(pair_query("some"), stores, {"p": routes, "q": routes}, {"p q": text, "q p": text}))
        for event in (("add", "k", (1, 5)), ("add", "k", (1, 6)), ("add", "m", (1, 0)), ("add", "te", (5,)),
                      ("add", "te", (5,))):
            engine(event)
        return engine

    def test_fill_and_append(self):
        engine = self.engine("fill p sc sd, append q sd sc")
        both = (((1, 3), 2), ((2, 3), 2))
        self.assertEqual((engine.switch("q"), engine.moves), (Bag(), ()))
        self.assertEqual((engine.held("p").pairs(), engine.held("q").pairs()), (both, both))
        engine.switch("p")
        self.assertEqual((engine.held("p").pairs(), engine.held("q").pairs()), (both, (((1, 3), 4), ((2, 3), 4))))

    def test_each_step_sees_what_the_earlier_ones_have_left(self):
        engine = self.engine("fill p sc sd, clear sd, fill q sc sd")
        engine.switch("q")
        self.assertEqual((engine.held("p").size, engine.held("sd"), engine.held("q")), (4, Bag(), Bag()))
        engine = self.engine("clear sd, fill p sc sd")
        engine.switch("q")
        self.assertEqual(engine.held("p"), Bag())
        engine = self.engine("clear se, recount n sc se")
        engine.switch("q")
        self.assertEqual(engine.counted("n"), {})

    def test_recount_and_reset(self):
        for kind in ("counter", "flag"):
            engine = self.engine("recount n sc se", kind)
            engine.switch("q")
            self.assertEqual(engine.counted("n"), {(1,): (4, 5) if kind == "counter" else True})
            engine.remove(4)
            engine.remove(5)
            engine.switch("p")
            self.assertEqual(engine.counted("n"), {})
        engine = self.engine("recount n sc se, clear sc")
        engine.switch("q")
        self.assertEqual((engine.counted("n"), engine.held("sc")), ({(1,): (4, 5)}, Bag()))
        # At matches that are not in the store nothing is counted.
        engine.switch("p")
        self.assertEqual(engine.counted("n"), {})

    def test_reset(self):
        stores = {**STORES, "n": ("counter", "e"), "se": ("plain", ("e",))}
        routes = {"add c": ["update sc"], "add e": ["join sc, count n"]}
        engine = Engine(scheme_of(pair_query("some"), stores, {"p": routes, "q": routes}, {"p q": "reset n"}))
        engine.add("k", (1, 5))
        engine.add("te", (5,))
        self.assertEqual(engine.counted("n"), {(1,): (2,)})
        engine.switch("q")
        self.assertEqual(engine.counted("n"), {})

    def test_stores_stay_when_the_plan_changes(self):
        engine = self.engine("")
        before = {store: engine.held(store) for store in ("sc", "sd", "se")}
        engine.switch("q")
        self.assertEqual({store: engine.held(store) for store in before}, before)
        self.assertEqual(engine.plan, "q")


class Bounds(unittest.TestCase):
    """Two thousand different matches."""

    def engine(self, plans, transitions=None):
        query = Query({"k": ("x",), "m": ("x",), "n": ("x",)}, (), a=("core", "n"), c=("core", "k"), d=("core", "m"))
        stores = {"l": ("lazy", ("c", "d"), "c", "x", "sc", "sd"), "p": ("plain", ("c", "d")), "sc": ("plain", ("c",)),
                  "sd": ("plain", ("d",))}
        routes = {"add c": ["update sc"], "add d": ["update sd"]}
        made = {name: {**routes, **more} for name, more in plans.items()}
        return Engine(scheme_of(query, stores, made, transitions))

    def filled(self, engine, ones, others):
        for _ in range(ones):
            engine.add("k", (1,))
        for _ in range(others):
            engine.add("m", (1,))
        return engine

    def refused(self, engine, event):
        before, log, moves = engine.twin(), engine.log, engine.moves
        with self.assertRaises(TooMany) as caught:
            engine(event)
        self.assertEqual(caught.exception.limit, 2000)
        self.assertTrue(engine == before)
        self.assertEqual((engine.log, engine.moves, engine.world, engine.plan), (log, moves, before.world, before.plan))

    def test_pipelines(self):
        for pipeline, many in (("join sc, join sd", 0), ("join sc, join sd, emit", 2000), ("join l, emit", 2000)):
            for ones, others in ((40, 50), (44, 46), (50, 49)):
                engine = self.filled(self.engine({"p": {"add a": [pipeline]}}), ones, others)
                if ones * others <= 2000:
                    self.assertEqual((engine.add("n", (1,)), len(engine.output)), (91, many))
                else:
                    self.refused(engine, ("add", "n", (1,)))
                    engine.add("k", (1,)) if len(engine) < 100 else engine.remove(1)

    def test_stores(self):
        engine = self.filled(self.engine({"p": {"add d": ["update sd, join sc, update p"]}}), 45, 44)
        self.assertEqual(len(engine.held("p")), 1980)
        self.refused(engine, ("add", "m", (1,)))
        engine.remove(1)
        self.refused(engine, ("add", "m", (1,)))

    def test_transitions(self):
        for text in ("fill p sc sd", "append p sc sd"):
            engine = self.filled(self.engine({"p": {}, "q": {}}, {"p q": text}), 40, 50)
            engine.switch("q")
            self.assertEqual(len(engine.held("p")), 2000)
            engine = self.filled(self.engine({"p": {}, "q": {}}, {"p q": text}), 41, 50)
            self.refused(engine, ("switch", "q"))
            with self.assertRaises(UnknownName):
                engine.switch("x")

    def test_an_append_to_what_is_held(self):
        """Rows that left stay in a store: together with those of new rows these are too many matches."""
        for many, is_refused in ((12, True), (11, False)):
            engine = self.filled(self.engine({"p": {}, "q": {}}, {"p q": "append p sc sd", "q p": "clear sc"}), 40, 39)
            engine.switch("q")
            engine.switch("p")
            for key in range(1, 21):
                engine.remove(key)
            for _ in range(many):
                engine.add("k", (1,))
            self.assertEqual(len(engine.held("p")), 1560)
            if is_refused:
                self.refused(engine, ("switch", "q"))
            else:
                engine.switch("q")
                self.assertEqual(len(engine.held("p")), 1560 + 11 * 39)

    def test_loads_of_several_keys(self):
        engine = self.engine({"p": {}})
        for key in [1] * 25 + [2] * 17 + [3] * 16:
            engine.add("k", (key,))
        for _ in range(42):
            engine.add("m", (1,))
        self.assertEqual(len(engine), 100)
        engine.load("l", 1)
        self.assertEqual(len(engine.held("l")), 25 * 42)
        engine.load("l", 2)
        self.assertEqual(len(engine.held("l")), 42 * 42)
        self.refused(engine, ("load", "l", 3))
        engine.evict("l", 2)
        engine.load("l", 3)
        self.assertEqual((len(engine.held("l")), engine.loaded("l")), (41 * 42, (1, 3)))

    def test_loads(self):
        engine = self.filled(self.engine({"p": {}}), 41, 49)
        self.refused(engine, ("load", "l", 1))
        engine.load("l", 2)
        self.assertEqual((engine.held("l"), engine.loaded("l")), (Bag(), (2,)))
        engine = self.filled(self.engine({"p": {}}), 40, 50)
        engine.load("l", 1)
        self.assertEqual(len(engine.held("l")), 2000)

    def test_what_a_lazy_store_shows_alone_may_be_more(self):
        """Only what is passed on and held counts: no match comes, or few of what is shown fit."""
        query = Query({"k": ("x",), "m": ("x",), "n": ("x",)}, (("a", "x", "c", "x"),), a=("core", "n"),
                      c=("core", "k"), d=("core", "m"))
        stores = {"l": ("lazy", ("c", "d"), "c", "x", "sd", "sc"), "sc": ("plain", ("c",)), "sd": ("plain", ("d",))}
        routes = {"add c": ["update sc"], "add d": ["update sd"], "add a": ["join l, emit"]}
        engine = Engine(scheme_of(query, stores, {"p": routes}))
        for key in range(50):
            engine.add("k", (key,))
        for _ in range(48):
            engine.add("m", (1,))
        engine.add("n", (7,))
        self.assertEqual(len(engine.output), 48)
        self.assertTrue(engine.is_right())

    def test_too_many_results_for_is_right(self):
        engine = self.filled(self.engine({"p": {}}), 44, 46)
        engine.add("n", (1,))
        with self.assertRaises(TooMany) as caught:
            engine.is_right()
        self.assertEqual(caught.exception.limit, 2000)


class Read(unittest.TestCase):
    def test_rows(self):
        engine = started()
        engine.remove(1)
        for value in everything() + [1, 4]:
            told = whole(value) and value in (2, 3)
            self.assertIs(value in engine, told)
            if not told:
                with self.assertRaises(UnknownKey) as caught:
                    engine[value]
                self.assertIs(caught.exception.key, value)
        self.assertEqual([engine[2], engine[3], len(engine)], [("ord", (1, 7)), ("item", (7,)), 2])
        self.assertEqual(engine.world, World(shop_query(), rows={2: ("ord", (1, 7)), 3: ("item", (7,))}))
        with self.assertRaises(TypeError):
            list(engine)

    def test_names(self):
        engine = Engine(scheme_of(pair_query("some"), {**STORES, "n": ("flag", "e")}, {"p": {}}))
        for value in everything() + list(STORES) + ["n"]:
            for call, names in ((engine.held, list(STORES)), (engine.loaded, ["l"]), (engine.counted, ["n"])):
                if isinstance(value, str) and value in names:
                    call(value)
                else:
                    with self.assertRaises(UnknownName) as caught:
                        call(value)
                    self.assertIs(caught.exception.name, value)

    def test_nothing_gives_access(self):
        engine = started()
        engine.add("block", (9,))
        engine.add("block", (5,))
        twin = engine.twin()
        for bag in (engine.output, engine.news, engine.held("sc")):
            bag.put((9,), 9)
        engine.counted("nb").clear()
        engine.world.rows.clear()
        engine.scheme.stores.clear()
        self.assertTrue(engine == twin)
        self.assertEqual((engine.output, engine.news, engine.held("sc").pairs(), engine.counted("nb")),
                         (Bag(), Bag({(1, 3, 2): -1}), (((1,), 1),), {(1,): (5,)}))

    def test_equality(self):
        engine = started()
        for value in everything():
            self.assertIs(engine == value, False)
            self.assertIs(engine != value, True)
        self.assertTrue(engine == started() and not engine != started())
        for event in (("add", "block", (9,)), ("remove", 1), ("switch", "flat")):
            other = started()
            other(event)
            self.assertFalse(engine == other)
        other = Engine(lost())
        for event in START:
            other(event)
        self.assertFalse(engine == other)

    def test_rows_that_left_count_for_equality(self):
        """Two engines without rows, but with other rows under their keys, or more of them."""
        one, other, more = (Engine(shop()) for _ in range(3))
        for engine, row in ((one, (1,)), (other, (2,)), (more, (1,))):
            engine.add("item", row)
            engine.remove(1)
        self.assertFalse(one == other)
        self.assertTrue(one == more)
        more.add("item", (1,))
        more.remove(2)
        self.assertFalse(one == more)
        stays, leaves = Engine(scheme_of(pair_query(), STORES, {"p": {}})), Engine(scheme_of(pair_query(), STORES, {"p": {}}))
        stays.add("k", (1, 1)), leaves.add("k", (1, 1))
        self.assertTrue(stays == leaves)
        leaves.remove(1)
        self.assertFalse(stays == leaves)

    def test_schemes_count_for_equality(self):
        self.assertFalse(Engine(shop()) == Engine(lost()))

    def test_what_stores_and_counters_hold_counts_for_equality(self):
        """Two engines with the same plan, rows and output."""
        one, other = Engine(shop()), Engine(shop())
        for engine in (one, other):
            for event in START[:2]:
                engine(event)
        one.switch("wide")
        one.switch("flat")
        self.assertEqual((one.output, one.world, one.held("sco").size), (other.output, other.world, 1))
        self.assertFalse(one == other)
        stores = {**STORES, "n": ("counter", "e")}
        routes = {"add c": ["update sc"], "add e": ["join sc, count n"]}
        scheme = scheme_of(pair_query("some"), stores, {"p": routes, "q": routes}, {"p q": "reset n", "q p": ""})
        one, other = Engine(scheme), Engine(scheme)
        for engine in (one, other):
            engine.add("k", (1, 5))
            engine.add("te", (5,))
        self.assertTrue(one == other)
        one.switch("q")
        one.switch("p")
        self.assertFalse(one == other)

    def test_the_output_counts_for_equality(self):
        scheme = scheme_of(pair_query(), STORES, {
            "p": {"add c": ["update sc"], "add d": ["update sd, join sc, emit"]},
            "q": {"add c": ["update sc"], "add d": ["update sd"]}}, {"p q": "", "q p": ""})
        one, other = Engine(scheme), Engine(scheme)
        for engine, events in ((one, ("add", "q", "p")), (other, ("q", "add", "p"))):
            engine.add("k", (1, 5))
            for word in events:
                engine(("add", "m", (1, 0)) if word == "add" else ("switch", word))
        self.assertEqual((one.world, one.plan, len(one.output), len(other.output)), (other.world, other.plan, 1, 0))
        self.assertFalse(one == other)

    def test_loaded_keys_count_for_equality(self):
        one, other = (Engine(scheme_of(pair_query(), STORES, {"p": {}})) for _ in range(2))
        one.load("l", 1)
        self.assertFalse(one == other)
        one.evict("l", 1)
        self.assertTrue(one == other)
        self.assertNotEqual(one.log, other.log)

    def test_moves_and_log_do_not_count_for_equality(self):
        one, other = started(), started()
        one.add("block", (8,))
        other.add("block", (8,))
        one.switch("flat")
        one.switch("wide")
        self.assertTrue(one == other)

    def test_text(self):
        self.assertEqual(str(started()), "engine with the plan wide, 3 rows, 1 results")


class Undone(unittest.TestCase):
    def state(self, engine):
        return (engine.log, engine.moves, engine.news, engine.output, engine.plan, engine.world.rows,
                engine.counted("nb"), [engine.held(name) for name in ("sb", "sc", "sco", "si", "so")])

    def test_undo_and_redo(self):
        engine = Engine(shop())
        states = [self.state(engine)]
        events = START + (("add", "block", (5,)), ("remove", 4), ("switch", "flat"), ("remove", 1))
        for event in events:
            engine(event)
            states.append(self.state(engine))
        for many in range(len(events) + 1):
            self.assertEqual(engine.undo(many=many), len(events) - many)
            self.assertEqual(self.state(engine), states[len(events) - many])
            self.assertEqual(engine.redo(many=many), len(events))
            self.assertEqual(self.state(engine), states[-1])
        for at in range(len(events) - 1, -1, -1):
            self.assertEqual((engine.undo(), self.state(engine)), (at, states[at]))
        self.assertEqual((engine.redo(many=3), self.state(engine)), (3, states[3]))
        self.assertEqual((engine.undo(many=1), engine.redo(many=2), self.state(engine)), (2, 4, states[4]))
        self.assertEqual((engine.redo(many=len(events) - 4), self.state(engine)), (len(events), states[-1]))

    def test_the_next_key(self):
        engine = started()
        engine.add("item", (1,))
        engine.undo(many=2)
        self.assertEqual((engine.add("ord", (1, 7)), engine[3]), (3, ("ord", (1, 7))))

    def test_a_new_event_forgets_what_was_undone(self):
        engine = started()
        engine.undo(many=2)
        with self.assertRaises(UnknownKey):
            engine.remove(3)
        self.assertEqual(engine.redo(many=0), 2)
        engine.switch("wide")
        with self.assertRaises(NothingToUndo):
            engine.redo()
        self.assertEqual((engine.undo(), engine.redo()), (2, 3))

    def test_a_refused_event_forgets_nothing(self):
        engine = started()
        engine.undo(many=2)
        for event in (("add", "cus", (1,)), ("switch", "flat"), ("remove", 9), ("load", "sco", 1), 5):
            with self.assertRaises((InvalidRow, InvalidOperation, UnknownKey, UnknownName, InvalidEvent)):
                engine(event)
        self.assertEqual((engine.redo(many=2), engine == started()), (4, True))

    def test_wrong_numbers(self):
        engine = started()
        engine.undo()
        for call, most in ((engine.undo, 3), (engine.redo, 1)):
            for value in those_not(lambda value: whole(value) and value >= 0):
                with self.assertRaises(InvalidNumber) as caught:
                    call(many=value)
                self.assertIs(caught.exception.value, value)
            for many in (most + 1, LONGEST):
                with self.assertRaises(NothingToUndo) as caught:
                    call(many=many)
                self.assertEqual(caught.exception.many, many)
            self.assertEqual(call(many=0), 3)
            with self.assertRaises(TypeError):
                call(1)
        self.assertEqual((engine.log, engine.redo()), (START[:3], 4))


class Stop(Exception):
    """An error of a block."""


class Trials(unittest.TestCase):
    def test_all_is_as_before(self):
        engine = started()
        engine.add("block", (5,))
        engine.undo()
        moves, log = engine.moves, engine.log
        with engine.trial() as same:
            self.assertIs(same, engine)
            engine.remove(1)
            engine.add("block", (6,))
            engine.switch("flat")
            self.assertEqual(len(engine.log), 7)
        self.assertTrue(engine == started())
        self.assertEqual((engine.moves, engine.log, engine.redo(), engine[4]), (moves, log, 5, ("block", (5,))))

    def test_undo_inside(self):
        engine = started()
        with engine.trial():
            engine.undo(many=3)
            engine.add("item", (1,))
        self.assertEqual((engine == started(), engine.log, engine.add("item", (2,))), (True, START, 4))

    def test_errors(self):
        engine = started()
        for error in (Stop, UnknownKey, KeyboardInterrupt):
            with self.assertRaises(error):
                with engine.trial():
                    engine.remove(1)
                    raise error(1)
            self.assertTrue(engine == started())
        with self.assertRaises(UnknownKey):
            with engine.trial() as same:
                same.remove(2)
                same.remove(2)
        self.assertEqual((engine.log, engine.news.pairs()), (START, (((1, 3, 2), 1),)))

    def test_blocks_inside_blocks(self):
        engine = started()
        with engine.trial():
            engine.remove(1)
            with engine.trial():
                engine.remove(2)
                with self.assertRaises(Stop):
                    with engine.trial():
                        engine.remove(3)
                        raise Stop
                self.assertEqual(list(engine.world.rows), [3])
            self.assertEqual(list(engine.world.rows), [2, 3])
        self.assertTrue(engine == started())

    def test_during(self):
        engine = started()

        def call(same):
            self.assertIs(same, engine)
            same.remove(1)
            return len(same.output), len(same)
        self.assertEqual((engine.during(call), engine == started()), ((0, 2), True))

        def fail(same):
            same.remove(1)
            raise Stop
        with self.assertRaises(Stop):
            engine.during(fail)
        self.assertEqual((engine == started(), engine.during(lambda same: same.during(call))), (True, (0, 2)))

    def test_twins(self):
        engine = started()
        engine.add("block", (5,))
        engine.undo()
        twin = engine.twin()
        self.assertEqual((twin == engine, twin.log, twin.moves, type(twin)), (True, engine.log, engine.moves, Engine))
        self.assertEqual((twin.redo(), twin[4], len(engine), twin.undo()), (5, ("block", (5,)), 3, 4))
        twin.remove(1)
        engine.redo()
        self.assertEqual((len(twin), len(engine), len(engine.output), twin.log[-1]), (2, 4, 0, ("remove", 1)))
        with self.assertRaises(NothingToUndo):
            twin.redo()
        self.assertEqual((twin.undo(many=5), len(engine.log)), (0, 5))
        with engine.trial():
            inner = engine.twin()
            engine.remove(1)
        inner.remove(4)
        self.assertEqual((len(engine), len(inner)), (4, 3))


if __name__ == "__main__":
    unittest.main()
