import inspect
import itertools
import unittest

import shelfroutes.plan.steps as steps_module
from shelfroutes.errors import InvalidOperation, InvalidQuery, InvalidStep, InvalidStore, UnknownName
from shelfroutes.plan.steps import (MAX_STEPS, is_pipeline, is_pipeline_for, is_step, is_stores, is_transition,
                                    is_transition_for, roles_along, sign_of)
from shelfroutes.query.queries import Query
from tests.draws import draw_pipeline, draw_query, draw_step, draw_stores, draw_transition, rng_of
from tests.shop import FILL, FLAT_ROUTES, STORES, WIDE_ROUTES, shop_query, steps
from tests.told import (named, told_along, told_change, told_pipeline, told_step, told_stores,
                        told_transition)
from tests.values import everything, those_not

PIPELINE_STEPS = [("update", "so"), ("join", "sc"), ("count", "nb"), ("recount", "nb", "sb"), ("some", "nb"),
                  ("none", "nb"), ("emit",)]
TRANSITION_STEPS = [("fill", "sco", "sc", "so"), ("append", "sco", "sc", "so"), ("clear", "sc"),
                    ("recount", "nb", "sc", "sb"), ("reset", "nb")]
# A query with a role that has two ties, and one with an optional role.
WIDE_TABLES = {"k": ("x", "y"), "m": ("x", "y", "z"), "n": ("x",)}
WIDE_TESTS = (("a", "x", "b", "x"), ("a", "y", "e", "y"), ("b", "y", "e", "z"))
WIDE_ROLES = {"a": ("core", "k"), "b": ("core", "k"), "c": ("core", "n"), "e": ("optional", "m")}
WIDE_STORES = {"ab": ("plain", ("a", "b")), "lab": ("lazy", ("a", "b"), "a", "y", "sa", "sb"), "ne": ("counter", "e"),
               "labc": ("lazy", ("a", "b", "c"), "c", "x", "sc", "lab"), "sa": ("plain", ("a",)),
               "sb": ("plain", ("b",)), "sc": ("plain", ("c",)), "se": ("plain", ("e",))}


def wide_query(sort="optional"):
    return Query(WIDE_TABLES, WIDE_TESTS, **{**WIDE_ROLES, "e": (sort, "m")})


def spoilt(value):
    """Values that differ from a tuple of names in one place."""
    found = [value[:at] + value[at + 1:] for at in range(len(value))]
    found += [value[:at] + (part,) + value[at + 1:] for at in range(len(value))
              for part in ("", "Update", "abcdefghi", 1, None, True, ("so",), ["so"], "s1")]
    return found + [value + ("so",), value + (None,), list(value), (value,), (value, value)]


class Interface(unittest.TestCase):
    def test_constant(self):
        self.assertEqual(MAX_STEPS, 12)

    def test_where_all_is_defined(self):
        for made in (is_step, is_pipeline, is_transition, is_stores, roles_along, is_pipeline_for, is_transition_for,
                     sign_of):
            self.assertEqual(made.__module__, "shelfroutes.plan.steps")
        self.assertTrue(inspect.isgeneratorfunction(steps_module.roles_along))

    def test_example(self):
        query = shop_query()
        self.assertEqual(
            [is_pipeline((("update", "so"), ("emit",))), is_pipeline((("emit",), ("join", "sc"))),
             is_pipeline((("none", "nb"), ("update", "so")))], [True, False, False])
        pipeline = (("update", "so"), ("join", "sc"), ("none", "nb"))
        self.assertEqual(list(roles_along(query, STORES, "add", "o", pipeline)),
                         [("o",), ("o",), ("c", "o"), ("c", "o")])
        self.assertEqual([is_transition_for(query, STORES, (("fill", "sco", one, "so"),)) for one in ("sc", "si")],
                         [True, False])


class Forms(unittest.TestCase):
    def test_steps(self):
        for step in PIPELINE_STEPS:
            self.assertIs(is_step(step), True)
            for value in spoilt(step):
                self.assertIs(is_step(value), told_step(value), value)
        for step in TRANSITION_STEPS:
            self.assertIs(is_step(step), False)
        self.assertIs(is_step(("update", "abcdefgh")), True)
        for value in everything():
            self.assertIs(is_step(value), told_step(value))
            self.assertIs(is_step(("update", value)), named(value))
            self.assertIs(is_step(("recount", "nb", value)), named(value))

    def test_pipelines(self):
        for many in range(1, 4):
            for value in itertools.product(PIPELINE_STEPS, repeat=many):
                self.assertIs(is_pipeline(value), told_pipeline(value), value)
        for value in everything():
            self.assertIs(is_pipeline(value), told_pipeline(value))
            self.assertIs(is_pipeline((("emit",), value)), False)
            self.assertIs(is_pipeline((value, ("emit",))), told_step(value) and value[0] != "emit")
        self.assertIs(is_pipeline([("emit",)]), False)

    def test_behind_the_first_choice(self):
        for first in ("some", "none", "count"):
            for word, many in (("update", 1), ("join", 1), ("count", 1), ("recount", 2), ("some", 1), ("none", 1),
                               ("emit", 0)):
                step = (word,) + ("x",) * many
                told = word in ("join", "some", "none", "emit")
                self.assertIs(is_pipeline(((first, "nb"), step)), told)
                self.assertIs(is_pipeline((("update", "so"), (first, "nb"), ("join", "x"), step)), told)

    def test_one_to_twelve_steps(self):
        for many in range(0, 15):
            self.assertIs(is_pipeline((("join", "sc"),) * many), 1 <= many <= 12)
            self.assertIs(is_pipeline((("join", "sc"),) * many + (("emit",),)), many <= 11)

    def test_transitions(self):
        self.assertIs(is_transition(()), True)
        for many in range(1, 4):
            for value in itertools.product(TRANSITION_STEPS, repeat=many):
                self.assertIs(is_transition(value), told_transition(value), value)
        for step in TRANSITION_STEPS:
            for value in spoilt(step):
                self.assertIs(is_transition((value,)), told_transition((value,)), value)
        for step in PIPELINE_STEPS:
            self.assertIs(is_transition((step,)), False)
        for value in everything():
            self.assertIs(is_transition(value), told_transition(value))
            self.assertIs(is_transition((("clear", "sc"), value)), told_transition((("clear", "sc"), value)))

    def test_at_most_twelve_changes_of_different_stores(self):
        names = ["s" + letter for letter in "abcdefghijklm"]
        for many in range(14):
            self.assertIs(is_transition(tuple(("clear", name) for name in names[:many])), many <= 12)
        for one, other in itertools.product(TRANSITION_STEPS, repeat=2):
            value = ((one[0], "xa") + one[2:], (other[0], "xa") + other[2:])
            self.assertIs(is_transition(value), False)
            self.assertIs(is_transition((value[0], (other[0], "xb") + other[2:])), True)


class Stores(unittest.TestCase):
    def test_right_ones(self):
        self.assertIs(is_stores(shop_query(), STORES), True)
        self.assertIs(is_stores(wide_query(), WIDE_STORES), True)
        self.assertIs(is_stores(wide_query(), {"ne": ("flag", "e")}), True)
        self.assertIs(is_stores(Query({"k": ("x",)}, (), c=("core", "k")), {}), True)

    def test_queries(self):
        for value in those_not(lambda value: isinstance(value, Query)):
            for stores in (STORES, None):
                with self.assertRaises(InvalidQuery):
                    is_stores(value, stores)

    def test_values_of_all_kinds(self):
        for query in (shop_query(), wide_query(), Query({"k": ("x",)}, (), c=("core", "k"))):
            for value in everything():
                self.assertIs(is_stores(query, value), told_stores(query, value), value)
        for value in everything():
            self.assertIs(is_stores(shop_query(), {**STORES, "x": value}), told_stores(shop_query(), {**STORES, "x": value}))
            for at in (1, 2, 3, 4, 5):
                entry = WIDE_STORES["labc"][:at] + (value,) + WIDE_STORES["labc"][at + 1:]
                self.assertIs(is_stores(wide_query(), {**WIDE_STORES, "labc": entry}),
                              told_stores(wide_query(), {**WIDE_STORES, "labc": entry}), value)
            for kind in ("plain", "counter", "flag", "lazy"):
                stores = {**WIDE_STORES, "x": (kind, value)}
                self.assertIs(is_stores(wide_query(), stores), told_stores(wide_query(), stores), (kind, value))

    def test_names(self):
        for name in ("", "abcdefghi", "S", "s1", 1, None, True, ("s",), ()):
            self.assertIs(is_stores(shop_query(), {**STORES, name: ("plain", ("c",))}), False)
        self.assertIs(is_stores(shop_query(), {**STORES, "abcdefgh": ("plain", ("c",))}), True)

    def test_at_most_twelve(self):
        for many in range(10):
            stores = {**STORES, **{"t" + letter: ("plain", ("c", "i", "o")) for letter in "abcdefghij"[:many]}}
            self.assertIs(is_stores(shop_query(), stores), len(stores) <= 12)

    def test_roles_of_stores(self):
        for roles, told in ((("c",), True), (("c", "i"), True), (("c", "i", "o"), True), (("i", "c"), False),
                            (("c", "c"), False), ((), False), (("b",), True), (("b", "c"), False), (("x",), False),
                            (["c"], False), ("c", False)):
            self.assertIs(is_stores(shop_query(), {**STORES, "x": ("plain", roles)}), told)

    def test_counters(self):
        """Each side role has exactly one counter or flag."""
        rest = {name: STORES[name] for name in STORES if name != "nb"}
        self.assertIs(is_stores(shop_query(), rest), False)
        self.assertIs(is_stores(shop_query(), {**rest, "fb": ("flag", "b")}), True)
        for other in (("flag", "b"), ("counter", "b"), ("counter", "c"), ("flag", "x"), ("counter", ("b",))):
            self.assertIs(is_stores(shop_query(), {**STORES, "x": other}), False)
        for other in (("counter", "b", "b"), ("some", "b"), ("counter",), ("Counter", "b"), ("flag", "b", ("b",)), "nb",
                      ("counter", ("b",)), ["counter", "b"]):
            self.assertIs(is_stores(shop_query(), {**rest, "nb": other}), False)
        for other in (("plain", ("c",), ("c",)), ("plain",), ("store", ("c",)), ["plain", ("c",)]):
            self.assertIs(is_stores(shop_query(), {**STORES, "x": other}), False)
        tests = (("c", "x", "e", "x"), ("c", "x", "f", "x"))
        query = Query({"k": ("x",), "m": ("x",), "n": ("x",)}, tests, c=("core", "k"), e=("some", "m"), f=("none", "n"))
        self.assertIs(is_stores(query, {"a": ("flag", "e"), "b": ("counter", "f")}), True)
        self.assertIs(is_stores(query, {"a": ("flag", "e")}), False)
        self.assertIs(is_stores(query, {"a": ("flag", "e"), "b": ("counter", "e")}), False)

    def test_lazy_stores(self):
        query = wide_query()

        def told(**changed):
            return is_stores(query, {**WIDE_STORES, **changed})
        for entry, right in ((("lazy", ("a", "b"), "b", "x", "sb", "sa"), True),
                             (("lazy", ("a", "b"), "c", "x", "sa", "sb"), False),
                             (("lazy", ("a", "b"), "a", "z", "sa", "sb"), False),
                             (("lazy", ("a", "b"), "a", "x", "sa", "sc"), False),
                             (("lazy", ("a", "b"), "a", "x", "sa", "sa"), False),
                             (("lazy", ("a", "b"), "a", "x", "sa", "ab"), False),
                             (("lazy", ("a", "b"), "a", "x", "sa", "ne"), False),
                             (("lazy", ("a", "b"), "a", "x", "sa", "none"), False),
                             (("lazy", ("a", "e"), "a", "x", "sa", "se"), False),
                             (("lazy", ("a",), "a", "x", "sa", "sb"), False),
                             (("lazy", ("b", "a"), "a", "x", "sb", "sa"), False),
                             (("lazy", ("a", "b", "c"), "a", "x", "lab", "sc"), True),
                             (("lazy", ("a", "b", "c"), "a", "x", "ab", "sc"), True),
                             (("lazy", ("a", "b", "c"), "a", "x", "ab", "sb"), False),
                             (("lazy", ("a", "b"), "a", "x", "sa"), False),
                             (("lazy", ("a", "b"), "a", "x", "sa", "sb", "sc"), False)):
            self.assertIs(told(x=entry), right, entry)

    def test_a_counter_is_no_source(self):
        """Also if the name of its role begins with that of a core role."""
        query = Query({"k": ("x",), "m": ("x",)}, (("c", "x", "ce", "x"),), c=("core", "k"), d=("core", "k"),
                      ce=("some", "m"))
        stores = {"n": ("counter", "ce"), "sc": ("plain", ("c",)), "sd": ("plain", ("d",)), "se": ("plain", ("ce",))}
        for one, other, told in (("sc", "sd", True), ("n", "sd", False), ("sd", "n", False), ("se", "sd", False)):
            stores["l"] = ("lazy", ("c", "d"), "c", "x", one, other)
            self.assertIs(is_stores(query, stores), told)
            told_fill = is_transition_for(query, {**stores, "l": ("plain", ("c", "d"))}, (("fill", "l", one, other),))
            self.assertIs(told_fill, told)

    def test_drawn_ones(self):
        for seed in range(200):
            rng = rng_of("stores", seed)
            query = draw_query(rng, most_core=4)
            stores = draw_stores(rng, query)
            self.assertIs(is_stores(query, stores), True)
            other = draw_stores(rng, draw_query(rng, most_core=4))
            for value in (other, {**stores, **other}, {name: stores[name] for name in list(stores)[1:]}):
                self.assertIs(is_stores(query, value), told_stores(query, value))


class Along(unittest.TestCase):
    def along(self, query, stores, word, role, pipeline):
        """The roles up to an error, and whether there was one."""
        found = []
        try:
            for roles in roles_along(query, stores, word, role, pipeline):
                found.append(roles)
        except InvalidStep:
            return found, False
        return found, True

    def check(self, query, stores, word, role, pipeline):
        told = told_along(query, stores, word, role, pipeline)
        self.assertEqual(self.along(query, stores, word, role, pipeline), told, pipeline)
        self.assertIs(is_pipeline_for(query, stores, word, role, pipeline), told[1])
        return told[1]

    def test_the_pipelines_of_the_example(self):
        query = shop_query()
        for routes in (FLAT_ROUTES, WIDE_ROUTES):
            for role, text in routes.items():
                self.assertTrue(self.check(query, STORES, "add", role, steps(text)))
                self.assertEqual(self.check(query, STORES, "remove", role, steps(text)), role != "c")

    def test_each_step_at_each_place(self):
        """Every step behind every beginning, for queries with each sort of side role."""
        right = 0
        for sort in ("optional", "some", "none"):
            query = wide_query(sort)
            names = sorted(WIDE_STORES) + ["none"]
            last = [(word, name) for word in ("update", "join", "count", "some", "none") for name in names]
            last += [("recount", name, other) for name in names for other in ("se", "sa", "ne")] + [("emit",)]
            beginnings = ["", "join sb", "join sb, join sc", "join sa, join sb", "join sa, join sb, join sc",
                          "join sa", "join sc", "join sb, join se", "join se", "join lab", "join sb, join se, join sc"]
            for word, role, text, step in itertools.product(("add", "remove"), "abce", beginnings, last):
                pipeline = steps(text) + (step,)
                right += self.check(query, WIDE_STORES, word, role, pipeline)
        self.assertGreater(right, 300)

    def test_drawn_pipelines(self):
        right = wrong = 0
        for seed in range(150):
            rng = rng_of("pipelines", seed)
            query = draw_query(rng)
            stores = draw_stores(rng, query)
            for _ in range(15):
                word, role = rng.choice(("add", "remove")), rng.choice(sorted(query.roles))
                pipeline = draw_pipeline(rng, query, stores, word, role)
                if rng.random() < 0.5:
                    pipeline += (draw_step(rng, stores),)
                if told_pipeline(pipeline):
                    is_right = self.check(query, stores, word, role, pipeline)
                    right, wrong = right + is_right, wrong + (not is_right)
                else:
                    self.assertIs(is_pipeline_for(query, stores, word, role, pipeline), False)
        self.assertGreater(min(right, wrong), 200)

    def test_some_rules(self):
        optional, some = wide_query(), wide_query("some")
        for query, word, role, text, told in (
                (optional, "add", "a", "join sb, join se", True),       # a store of the optional role
                (some, "add", "a", "join sb, join se", False),          # ... of another side role
                (optional, "add", "e", "join sa, join se", False),      # ... by a pipeline of the side role
                (optional, "add", "a", "join se, join sb", True),       # without all ties
                (optional, "add", "a", "join se, emit", False),
                (optional, "add", "a", "join sb, join se, join sc, emit", True),
                (some, "add", "e", "join ab, join sc, emit", False),    # still with a "some" role
                (optional, "add", "e", "join ab, join sc, emit", True),
                (some, "add", "e", "join ab, count ne, join sc, emit", True),
                (some, "add", "e", "join ab, join sc, count ne", False),  # other roles beside the ties
                (some, "add", "e", "join ab, count ne, some ne, join sc, emit", True),  # its own counter
                (some, "add", "e", "join ab, none ne", False),          # with the side role
                (some, "add", "a", "join sb, count ne", False),         # not started with the side role
                (some, "add", "a", "join sb, recount ne se", True),
                (some, "remove", "a", "join sb, recount ne se", False),
                (some, "add", "c", "join ab, recount ne se", False),    # not just the ties
                (some, "add", "a", "recount ne se", False),
                (some, "add", "a", "join sb, recount ne sb", False),
                (some, "add", "a", "join sb, recount ne ne", False),
                (some, "add", "a", "join sb, join sc, some ne", True),  # more than the ties
                (some, "add", "a", "some ne", False),
                (some, "add", "a", "join sa", False),                   # a role twice
                (some, "add", "a", "join ab", False),
                (some, "add", "a", "update ab", False),
                (some, "add", "a", "join sb, update ab, update lab", True),
                (some, "add", "a", "update ne", False),
                (some, "add", "a", "join ne", False),
                (some, "add", "a", "some se", False),
                (some, "add", "e", "update se, update se", True)):
            self.assertEqual(self.check(query, WIDE_STORES, word, role, steps(text)), told, text)

    def test_errors_come_with_the_first_value(self):
        made = roles_along(None, None, None, None, None)
        with self.assertRaises(InvalidQuery):
            next(made)

    def test_the_error_of_a_step_comes_in_its_place(self):
        made = roles_along(shop_query(), STORES, "add", "o", (("update", "so"), ("join", "so"), ("emit",)))
        self.assertEqual([next(made), next(made)], [("o",), ("o",)])
        with self.assertRaises(InvalidStep):
            next(made)

    def test_wrong_arguments(self):
        good = [shop_query(), STORES, "add", "o", (("update", "so"),)]
        bad = [(InvalidQuery, those_not(lambda value: isinstance(value, Query))),
               (InvalidStore, those_not(lambda value: False) + [{**STORES, "x": ("plain", ("b", "c"))}]),
               (InvalidOperation, those_not(lambda value: value in ("add", "remove"))),
               (UnknownName, those_not(lambda value: value in list("bcio"))),
               (InvalidStep, those_not(told_pipeline))]
        for at, (error, values) in enumerate(bad):
            for value in values:
                for later in (good[at + 1:], [None] * (4 - at)):
                    arguments = good[:at] + [value] + later
                    with self.assertRaises(error) as caught:
                        list(roles_along(*arguments))
                    if error is UnknownName:
                        self.assertIs(caught.exception.name, value)
                    if at < 4:
                        with self.assertRaises(error):
                            is_pipeline_for(*arguments)
                    else:
                        self.assertIs(is_pipeline_for(*arguments), False)

    def test_nothing_is_changed(self):
        stores = dict(STORES)
        list(roles_along(shop_query(), stores, "add", "o", (("update", "so"),)))
        self.assertEqual(stores, STORES)


class Changes(unittest.TestCase):
    def test_each_step(self):
        right = 0
        for sort in ("optional", "some"):
            query = wide_query(sort)
            names = sorted(WIDE_STORES) + ["none"]
            for word, many in (("fill", 3), ("append", 3), ("clear", 1), ("recount", 3), ("reset", 1)):
                for told in itertools.product(names, repeat=many):
                    step = (word,) + told
                    self.assertIs(is_transition_for(query, WIDE_STORES, (step,)), told_change(query, WIDE_STORES, step))
                    right += told_change(query, WIDE_STORES, step)
        self.assertGreater(right, 20)

    def test_some_rules(self):
        query = wide_query()
        for text, told in (("", True), ("fill ab sa sb", True), ("fill ab sb sa", True), ("fill ab sa sa", False),
                           ("fill lab sa sb", False), ("append lab sa sb", False), ("fill sa sa sb", False),
                           ("append ab sb sa", True), ("clear se", True), ("clear lab", True), ("clear ne", False),
                           ("reset ne", True), ("reset se", False), ("recount ne ab se", True),
                           ("recount ne lab se", False), ("recount ne sa se", False), ("recount ne ab sa", False),
                           ("recount sa ab se", False), ("clear none", False), ("clear sa, reset ne", True),
                           ("clear sa, clear sa", False), ("clear ab, fill ab sa sb", False)):
            self.assertIs(is_transition_for(query, WIDE_STORES, steps(text)), told, text)

    def test_lazy_sources(self):
        stores = {**WIDE_STORES, "abc": ("plain", ("a", "b", "c"))}
        self.assertIs(is_transition_for(wide_query(), stores, (("fill", "abc", "lab", "sc"),)), True)
        self.assertIs(is_transition_for(wide_query(), stores, (("append", "abc", "sc", "ab"),)), True)
        self.assertIs(is_transition_for(wide_query(), stores, (("fill", "abc", "labc", "sc"),)), False)

    def test_drawn_transitions(self):
        for seed in range(100):
            rng = rng_of("transitions", seed)
            query = draw_query(rng)
            stores = draw_stores(rng, query)
            drawn = draw_transition(rng, query, stores)
            self.assertIs(is_transition_for(query, stores, drawn), True)
            for _ in range(5):
                value = drawn + (draw_step(rng, stores, changes=True),)
                told = told_transition(value) and all(told_change(query, stores, step) for step in value)
                self.assertIs(is_transition_for(query, stores, value), told)

    def test_values_of_all_kinds(self):
        for value in everything():
            told = told_transition(value) and all(told_change(shop_query(), STORES, step) for step in value)
            self.assertIs(is_transition_for(shop_query(), STORES, value), told)
            self.assertIs(is_transition_for(shop_query(), STORES, (value,)), value == FILL[0])

    def test_wrong_arguments(self):
        for value in those_not(lambda value: isinstance(value, Query)):
            for later in ((STORES, FILL), (None, FILL), (None, None)):
                with self.assertRaises(InvalidQuery):
                    is_transition_for(value, *later)
        for value in those_not(lambda value: False):
            for later in (FILL, None):
                with self.assertRaises(InvalidStore):
                    is_transition_for(shop_query(), value, later)


class Signs(unittest.TestCase):
    def test_all(self):
        tests = (("c", "x", "e", "x"), ("c", "x", "f", "x"))
        tables = {"k": ("x",), "m": ("x",), "n": ("x",)}
        query = Query(tables, tests, c=("core", "k"), e=("some", "m"), f=("none", "n"))
        told = {("add", "c"): 1, ("remove", "c"): -1, ("add", "e"): 1, ("remove", "e"): -1, ("add", "f"): -1,
                ("remove", "f"): 1}
        for (word, role), sign in told.items():
            self.assertEqual(sign_of(query, word, role), sign)
            self.assertEqual(sign_of(query, word, role, optional=False), sign)
            with self.assertRaises(InvalidOperation):
                sign_of(query, word, role, optional=True)
        query = wide_query()
        told = {("add", "a", False): 1, ("add", "a", True): 1, ("remove", "a", False): -1, ("remove", "a", True): -1,
                ("add", "e", True): 1, ("add", "e", False): -1, ("remove", "e", True): -1, ("remove", "e", False): 1}
        for (word, role, optional), sign in told.items():
            self.assertEqual(sign_of(query, word, role, optional=optional), sign)

    def test_wrong_arguments(self):
        query = wide_query()
        for value in those_not(lambda value: isinstance(value, Query)):
            for later in (("add", "a"), (None, None)):
                with self.assertRaises(InvalidQuery):
                    sign_of(value, *later, optional=None)
        for value in those_not(lambda value: value in ("add", "remove")):
            for role in ("a", None):
                with self.assertRaises(InvalidOperation):
                    sign_of(query, value, role, optional=None)
        for value in those_not(lambda value: value in list("abce")):
            for optional in (True, None):
                with self.assertRaises(UnknownName) as caught:
                    sign_of(query, "add", value, optional=optional)
                self.assertIs(caught.exception.name, value)
        for value in those_not(lambda value: isinstance(value, bool)) + [0, 1]:
            for told in (query, wide_query("some")):
                with self.assertRaises(InvalidOperation):
                    sign_of(told, "add", "a", optional=value)
        with self.assertRaises(TypeError):
            sign_of(query, "add", "a", True)


if __name__ == "__main__":
    unittest.main()
