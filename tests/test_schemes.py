import unittest

from shelfroutes.errors import (InvalidOperation, InvalidPlan, InvalidQuery, InvalidStore, InvalidTable,
                                InvalidTransition, UnknownName)
from shelfroutes.plan.plans import Plan
from shelfroutes.plan.schemes import MAX_PLANS, MAX_STORES, Scheme
from shelfroutes.query.queries import Query
from tests.draws import draw_query, draw_scheme, rng_of
from tests.shop import FILL, ROLES, STORES, TABLES, both_ways, flat_plan, lost, shop, shop_query, steps, wide_plan
from tests.told import named, told_change, told_stores, told_transition
from tests.trees import draw_tree_scheme
from tests.values import everything, those_not

GOOD = {"lasting": (), "stores": STORES, "plans": {"flat": flat_plan(), "wide": wide_plan()},
        "transitions": {("flat", "wide"): FILL}, "first": "flat"}


def lasting_plan():
    """A plan that keeps nothing of removed items."""
    return Plan({pair: flat_plan()[pair] for pair in flat_plan() if pair != ("remove", "i")})


def told_plans(value):
    return (isinstance(value, dict) and 1 <= len(value) <= 6
            and all(named(name) and isinstance(value[name], Plan) and value[name] in (Plan(), flat_plan(), wide_plan())
                    for name in value))


def told_names(value):
    return isinstance(value, tuple) and len(value) == 2 and set(value) == {"flat", "wide"}


class Interface(unittest.TestCase):
    def test_constants(self):
        self.assertEqual((MAX_STORES, MAX_PLANS), (12, 6))

    def test_members_are_defined_in_the_class(self):
        self.assertEqual(Scheme.__module__, "shelfroutes.plan.schemes")
        for name in ("__init__", "query", "lasting", "stores", "plans", "transitions", "first", "reached", "is_single",
                     "__getitem__", "steps_of", "__contains__", "__len__", "__eq__", "__str__", "with_plan",
                     "with_steps", "with_first"):
            self.assertIn(name, vars(Scheme))

    def test_example(self):
        scheme = shop()
        self.assertEqual(
            [scheme.reached, scheme.is_single, len(scheme), scheme.steps_of("flat", "wide"), str(scheme)],
            [("flat", "wide"), True, 2, (("fill", "sco", "sc", "so"),),
             "scheme of 2 plans, 6 stores and counters, 2 transitions"])


class Made(unittest.TestCase):
    def test_parts(self):
        scheme = Scheme(shop_query(), **GOOD)
        self.assertEqual((scheme.query, scheme.lasting, scheme.stores, scheme.plans, scheme.transitions, scheme.first),
                         (shop_query(), (), STORES, GOOD["plans"], GOOD["transitions"], "flat"))
        self.assertEqual([list(scheme.stores), list(scheme.plans)], [sorted(STORES), ["flat", "wide"]])

    def test_defaults_and_keywords(self):
        plans = {"flat": flat_plan()}
        scheme = Scheme(shop_query(), stores=STORES, plans=plans, first="flat")
        self.assertEqual((scheme.lasting, scheme.transitions), ((), {}))
        self.assertEqual(scheme, Scheme(shop_query(), lasting=(), stores=STORES, plans=plans, transitions=None, first="flat"))
        with self.assertRaises(TypeError):
            Scheme(shop_query(), (), stores=STORES, plans=plans, first="flat")

    def test_errors_in_their_order(self):
        """Each wrong argument alone, and with all later ones wrong, too."""
        order = ["query", "lasting", "stores", "plans", "transitions", "first"]
        good = {"query": shop_query(), **GOOD}
        wrong = {
            "query": (InvalidQuery, those_not(lambda value: isinstance(value, Query))),
            "lasting": (InvalidTable, those_not(lambda value: value in ((), ("cus",))) + [
                ("cus", "cus"), ("ord", "cus"), ["cus"], ("none",), ("cus", 1), ("c",), "cus", ("cus", None)]),
            "stores": (InvalidStore, those_not(lambda value: told_stores(shop_query(), value))),
            "plans": (InvalidPlan, those_not(told_plans)),
            "transitions": (InvalidTransition, those_not(lambda value: value is None or value == {})),
            "first": (UnknownName, those_not(lambda value: value in ("flat", "wide")))}
        for at, name in enumerate(order):
            error, values = wrong[name]
            for value in values:
                for later in (order[at + 1:], []):
                    given = {**good, name: value, **{other: None if other != "transitions" else 5 for other in later}}
                    with self.assertRaises(error) as caught:
                        Scheme(given.pop("query"), **given)
                    if error is UnknownName:
                        self.assertIs(caught.exception.name, value)

    def test_lasting_tables(self):
        plans = {"flat": lasting_plan()}
        for lasting in ((), ("item",)):
            scheme = Scheme(shop_query(), lasting=lasting, stores=STORES, plans=plans, first="flat")
            self.assertEqual(scheme.lasting, lasting)
        for lasting in (("cus",), ("cus", "item"), ("block", "cus", "item", "ord")):
            with self.assertRaises(InvalidPlan):
                Scheme(shop_query(), lasting=lasting, stores=STORES, plans=plans, first="flat")
        arrivals = {"flat": flat_plan().arrivals}
        scheme = Scheme(shop_query(), lasting=("block", "cus", "item", "ord"), stores=STORES, plans=arrivals, first="flat")
        self.assertEqual(scheme.lasting, ("block", "cus", "item", "ord"))

    def test_one_to_six_plans(self):
        names = ["a", "b", "c", "d", "e", "f", "abcdefgh"]
        for many in range(8):
            plans = {name: flat_plan() for name in names[:many]}
            if 1 <= many <= 6:
                self.assertEqual(len(shop(plans=plans, transitions={}, first="a")), many)
            else:
                with self.assertRaises(InvalidPlan):
                    shop(plans=plans, transitions={}, first="a")

    def test_names_of_plans(self):
        for name in ("", "abcdefghi", "A", 1, None, True, ("a",), ()):
            with self.assertRaises(InvalidPlan):
                shop(plans={"flat": flat_plan(), name: flat_plan()}, transitions={})

    def test_plans_must_be_right_for_the_stores(self):
        for pair, pipeline in ((("add", "x"), "emit"), (("add", "c"), "update so"), (("add", "c"), "update none"),
                               (("remove", "c"), "recount nb sb"), (("add", "c"), "join so, emit"),
                               (("add", "b"), "join sc, join sb"), (("remove", "x"), "emit")):
            plan = flat_plan().replaced(pair[0], pair[1], (steps("update sc"),) if pair[1] == "c" else ())
            self.assertTrue(shop(plans={"flat": plan}, transitions={}))
            with self.assertRaises(InvalidPlan):
                shop(plans={"flat": plan.replaced(*pair, (steps(pipeline),))}, transitions={})
        with self.assertRaises(InvalidPlan):
            shop(stores={name: STORES[name] for name in STORES if name != "sco"})

    def test_transitions(self):
        for pair in (("flat", "flat"), ("flat", "none"), ("none", "wide"), ("flat",), ("flat", "wide", "wide"), "flat",
                     ("flat", 1), None, 1, ()):
            with self.assertRaises(InvalidTransition):
                shop(transitions={pair: ()})
        for value in everything():
            told = told_transition(value) and all(told_change(shop_query(), STORES, step) for step in value)
            if told:
                self.assertEqual(shop(transitions={("wide", "flat"): value}).transitions, {("wide", "flat"): value})
            else:
                with self.assertRaises(InvalidTransition):
                    shop(transitions={("flat", "wide"): (), ("wide", "flat"): value})
        for text in ("fill sco si so", "clear nb", "clear none", "reset sc", "clear sc, clear sc", "recount nb sco sb"):
            with self.assertRaises(InvalidTransition):
                shop(transitions={("flat", "wide"): steps(text)})

    def test_nothing_gives_access(self):
        stores, plans = dict(STORES), {"flat": flat_plan(), "wide": wide_plan()}
        transitions = {("flat", "wide"): FILL, ("wide", "flat"): ()}
        scheme = shop(stores=stores, plans=plans, transitions=transitions)
        stores.clear(), plans.clear(), transitions.clear()
        for told in (scheme.stores, scheme.plans, scheme.transitions, scheme.query.tables, scheme.query.roles):
            told.clear()
        self.assertEqual(scheme, shop())
        self.assertEqual((len(scheme), len(scheme.stores), len(scheme.transitions)), (2, 6, 2))


class Read(unittest.TestCase):
    def test_plans(self):
        scheme = shop()
        self.assertEqual([scheme["flat"], scheme["wide"]], [flat_plan(), wide_plan()])
        for value in everything() + ["c", "sc"]:
            self.assertIs(value in scheme, isinstance(value, str) and value in ("flat", "wide"))
            if value not in scheme:
                with self.assertRaises(UnknownName) as caught:
                    scheme[value]
                self.assertIs(caught.exception.name, value)
        self.assertEqual(["flat" in scheme, "none" in scheme], [True, False])
        with self.assertRaises(TypeError):
            list(scheme)

    def test_steps_of(self):
        scheme = shop(transitions={("flat", "wide"): FILL})
        self.assertEqual(scheme.steps_of("flat", "wide"), FILL)
        for pair in (("wide", "flat"), ("flat", "flat"), ("wide", "wide")):
            with self.assertRaises(InvalidOperation):
                scheme.steps_of(*pair)
        for value in those_not(lambda value: value in ("flat", "wide")):
            for other in ("wide", "none", None):
                with self.assertRaises(UnknownName) as caught:
                    scheme.steps_of(value, other)
                self.assertIs(caught.exception.name, value)
            with self.assertRaises(UnknownName) as caught:
                scheme.steps_of("flat", value)
            self.assertIs(caught.exception.name, value)

    def test_reached(self):
        plans = {name: flat_plan() for name in "abcdef"}
        for pairs, first, told in ((("ab", "bc", "de"), "a", "abc"), (("ab", "bc", "de"), "d", "de"),
                                   (("ab", "bc", "de"), "f", "f"), (("ab", "ba", "cb"), "b", "ab"),
                                   (("fe", "ed", "dc", "cb", "ba"), "f", "abcdef"), ((), "c", "c")):
            scheme = shop(plans=plans, transitions={tuple(pair): () for pair in pairs}, first=first)
            self.assertEqual(scheme.reached, tuple(told))

    def test_equality(self):
        scheme = shop()
        for value in [value for value in everything() if not isinstance(value, Scheme)]:
            self.assertIs(scheme == value, False)
            self.assertIs(scheme != value, True)
        self.assertTrue(scheme == shop() and not scheme != shop())
        query = Query(TABLES, (("b", "town", "c", "town"),), **ROLES)
        others = [lost(), shop(first="wide"), shop(transitions={}), shop(stores={**STORES, "x": ("plain", ("c",))}),
                  shop(plans={"flat": wide_plan(), "wide": wide_plan()}), Scheme(query, **GOOD),
                  shop(stores={**STORES, "nb": ("flag", "b")})]
        lasting = {"plans": {"flat": lasting_plan()}, "transitions": {}}
        self.assertTrue(Scheme(shop_query(), **GOOD) == Scheme(shop_query(), **GOOD))
        self.assertFalse(Scheme(query, **GOOD) == Scheme(shop_query(), **GOOD))
        self.assertFalse(shop(**lasting) == shop(lasting=("item",), **lasting))
        for other in others:
            self.assertFalse(scheme == other)
            self.assertTrue(scheme != other)

    def test_text(self):
        plans = {name: flat_plan() for name in "abc"}
        scheme = shop(plans=plans, transitions={}, first="a", stores={**STORES, "x": ("plain", ("c",))})
        self.assertEqual(str(scheme), "scheme of 3 plans, 7 stores and counters, 0 transitions")


class Single(unittest.TestCase):
    def with_pipelines(self, word, role, *texts):
        plan = flat_plan().replaced(word, role, tuple(steps(text) for text in texts))
        return shop(plans={"flat": flat_plan(), "wide": plan}, transitions={})

    def test_emitting(self):
        emit = "join so, join si, emit"
        self.assertTrue(self.with_pipelines("add", "c", emit, "update sc", "join so").is_single)
        self.assertFalse(self.with_pipelines("add", "c", emit, emit).is_single)
        self.assertFalse(self.with_pipelines("remove", "c", emit, "update sc, " + emit).is_single)
        both = flat_plan().replaced("add", "c", (steps(emit),)).replaced("remove", "c", (steps(emit),))
        self.assertTrue(shop(plans={"flat": both, "wide": both}, transitions={}).is_single)

    def test_updates(self):
        self.assertFalse(self.with_pipelines("add", "c", "update sc, update sc").is_single)
        self.assertFalse(self.with_pipelines("add", "c", "update sc", "join so", "update sc").is_single)
        self.assertFalse(self.with_pipelines("remove", "c", "join so, update sco", "join so, update sco").is_single)
        self.assertTrue(self.with_pipelines("add", "c", "update sc, join so, update sco").is_single)

    def test_plans_that_are_not_reached_matter(self):
        self.assertEqual(self.with_pipelines("add", "c", "update sc, update sc").reached, ("flat",))

    def test_transitions(self):
        self.assertFalse(shop(transitions={("flat", "wide"): (("append", "sco", "sc", "so"),)}).is_single)
        self.assertTrue(shop(transitions={("flat", "wide"): steps("fill sco sc so, reset nb, clear si")}).is_single)

    def test_optional_roles(self):
        query = Query({"k": ("x",), "m": ("x",)}, (("c", "x", "e", "x"),), c=("core", "k"), e=("optional", "m"))
        stores = {"ne": ("counter", "e"), "sc": ("plain", ("c",)), "se": ("plain", ("e",))}

        def single(*texts):
            plan = Plan({("add", "c"): tuple(steps(text) for text in texts)})
            return Scheme(query, stores=stores, plans={"p": plan}, first="p").is_single
        self.assertTrue(single("update sc, join se, emit", "none ne, emit"))
        self.assertTrue(single("emit", "join se, emit"))
        self.assertFalse(single("emit", "none ne, emit"))
        self.assertFalse(single("join se, emit", "emit", "join se, emit"))

        def side_single(*texts):
            plan = Plan({("remove", "e"): tuple(steps(text) for text in texts)})
            return Scheme(query, stores=stores, plans={"p": plan}, first="p").is_single
        self.assertTrue(side_single("join sc, emit", "join sc, count ne, emit"))
        self.assertFalse(side_single("join sc, emit", "join sc, emit"))
        self.assertFalse(side_single("join sc, count ne, emit", "join sc, count ne, emit"))

    def test_drawn_schemes(self):
        """With a count of steps, told otherwise."""
        single = 0
        for seed in range(150):
            rng = rng_of("single", seed)
            scheme = draw_scheme(rng) if seed % 2 else draw_tree_scheme(rng, lambda: draw_query(rng), spoilt=seed % 3)
            told = not any(step[0] == "append" for steps in scheme.transitions.values() for step in steps)
            for plan in scheme.plans.values():
                for pair in plan:
                    flat = [step for pipeline in plan[pair] for step in pipeline if step[0] == "update"]
                    ends = [self.has_optional(scheme, pair, pipeline) for pipeline in plan[pair] if ("emit",) in pipeline]
                    told = told and sorted(set(flat)) == sorted(flat) and max(ends.count(True), ends.count(False)) <= 1
            self.assertIs(scheme.is_single, told)
            single += told
        self.assertGreater(single, 10)
        self.assertLess(single, 140)

    def has_optional(self, scheme, pair, pipeline):
        optional = scheme.query.optional
        if pair[1] == optional:
            return all(step[0] != "count" for step in pipeline)
        return any(step[0] == "join" and scheme.stores[step[1]][1] == (optional,) for step in pipeline)


class Changed(unittest.TestCase):
    def test_plans(self):
        scheme = shop()
        made = scheme.with_plan("flat", wide_plan())
        self.assertEqual((made["flat"], made.transitions, made.first), (wide_plan(), scheme.transitions, "flat"))
        self.assertEqual(list(scheme.with_plan("a", flat_plan()).plans), ["a", "flat", "wide"])
        self.assertEqual(scheme.with_plan("flat", flat_plan()), scheme)
        self.assertEqual(scheme, shop())

    def test_wrong_plans(self):
        scheme = shop()
        for value in those_not(named):
            for plan in (flat_plan(), None):
                with self.assertRaises(InvalidPlan):
                    scheme.with_plan(value, plan)
        for value in those_not(lambda value: isinstance(value, Plan)):
            with self.assertRaises(InvalidPlan):
                scheme.with_plan("flat", value)
        with self.assertRaises(InvalidPlan):
            scheme.with_plan("flat", both_ways({"x": "update sc"}))
        with self.assertRaises(InvalidPlan):
            shop(plans={"flat": lasting_plan()}, transitions={}, lasting=("item",)).with_plan("flat", flat_plan())
        for name in "abcd":
            scheme = scheme.with_plan(name, flat_plan())
        with self.assertRaises(InvalidPlan):
            scheme.with_plan("e", flat_plan())
        self.assertEqual(len(scheme.with_plan("d", wide_plan())), 6)

    def test_steps(self):
        scheme = shop()
        self.assertEqual(scheme.with_steps("flat", "wide", ()), lost())
        self.assertEqual(scheme.with_steps("wide", "flat", FILL).steps_of("wide", "flat"), FILL)
        one = shop(transitions={})
        self.assertEqual(one.with_steps("flat", "wide", ()).transitions, {("flat", "wide"): ()})
        self.assertEqual(one.with_steps("flat", "wide", ()).reached, ("flat", "wide"))
        self.assertEqual(scheme, shop())

    def test_wrong_steps(self):
        scheme = shop()
        for value in those_not(lambda value: value in ("flat", "wide")):
            for other, told in (("wide", FILL), ("wide", None), (None, None)):
                with self.assertRaises(InvalidTransition):
                    scheme.with_steps(value, other, told)
            with self.assertRaises(InvalidTransition):
                scheme.with_steps("flat", value, FILL)
        for value in those_not(lambda value: value in ((), (("clear", "sco"),), FILL)):
            with self.assertRaises(InvalidTransition):
                scheme.with_steps("flat", "wide", value)
        for name in ("flat", "wide"):
            with self.assertRaises(InvalidTransition):
                scheme.with_steps(name, name, ())

    def test_first(self):
        scheme = shop()
        self.assertEqual(scheme.with_first("wide"), shop(first="wide"))
        self.assertEqual(scheme.with_first("flat"), scheme)
        for value in those_not(lambda value: value in ("flat", "wide")):
            with self.assertRaises(UnknownName) as caught:
                scheme.with_first(value)
            self.assertIs(caught.exception.name, value)


if __name__ == "__main__":
    unittest.main()
