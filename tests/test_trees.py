"""Stage 14: schemes from trees."""

import inspect
import itertools
import unittest
from collections import Counter

from shelfroutes.check.invariants import Reach
from shelfroutes.check.local import is_local, local_of
from shelfroutes.errors import (InvalidQuery, InvalidTable, InvalidTree, TooMany, UnknownName)
from shelfroutes.make import trees as trees_module
from shelfroutes.make.trees import all_trees, is_tree, nodes, plan_by, scheme_by, stores_by
from shelfroutes.plan.plans import Plan
from shelfroutes.query.queries import Query
from shelfroutes.run.engine import Engine
from tests import plain
from tests.draws import SIDES, draw_event, draw_query, draw_row, rng_of, subset
from tests.dressed import with_lasting
from tests.shop import shop_query, steps
from tests.trees import Trees, draw_tree, leaves
from tests.trees import nodes as told_nodes
from tests.values import everything, named, those_not

TREE = (("c", "o"), "i")


def told_tree(query, value):
    """Whether the value is a tree of the query."""
    found = []

    def look(part):
        if isinstance(part, tuple) and len(part) == 2:
            return look(part[0]) and look(part[1])
        found.append(part)
        return named(part)
    return look(value) and sorted(found) == list(query.core)


def told_trees(roles):
    """All trees over some roles, with parts in both orders."""
    if len(roles) == 1:
        return {roles[0]}
    found = set()
    for many in range(1, len(roles)):
        for one in itertools.combinations(roles, many):
            other = tuple(role for role in roles if role not in one)
            found |= {(left, right) for left in told_trees(one) for right in told_trees(other)}
    return found


def puts_least_first(tree):
    if isinstance(tree, str):
        return True
    return min(leaves(tree)) in leaves(tree[0]) and puts_least_first(tree[0]) and puts_least_first(tree[1])


def drawn(many, label="trees", most_core=4, plans=3):
    for seed in range(many):
        rng = rng_of(label, seed)
        query = draw_query(rng, most_core=most_core, sides=SIDES[seed % 8])
        names = rng.sample(("flat", "wide", "late", "mid", "a", "zz"), rng.randint(1, plans))
        yield rng, query, {name: rng.choice((None, draw_tree(rng, query.core), draw_tree(rng, query.core))) for name in names}


class Interface(unittest.TestCase):
    def test_where_all_is_defined(self):
        for made in (is_tree, nodes, all_trees, plan_by, stores_by, scheme_by):
            self.assertEqual(made.__module__, "shelfroutes.make.trees")
        for made in (trees_module.nodes, trees_module.all_trees):
            self.assertTrue(inspect.isgeneratorfunction(made))
        told = inspect.signature(scheme_by).parameters
        self.assertEqual([(name, told[name].kind.name, told[name].default) for name in ("first", "lasting")],
                         [("first", "KEYWORD_ONLY", None), ("lasting", "KEYWORD_ONLY", ())])

    def test_example(self):
        query = shop_query()
        self.assertEqual([is_tree(query, TREE), list(nodes(TREE)), len(list(all_trees(query)))],
                         [True, [("c",), ("o",), ("c", "o"), ("i",), ("c", "i", "o")], 3])
        self.assertEqual([plan_by(query, TREE)["add", "i"], plan_by(query, TREE)["add", "c"][0]],
                         [((("update", "sc"), ("join", "sbd"), ("none", "na"), ("emit",)),), (("recount", "na", "sa"),)])
        self.assertEqual(scheme_by(query, {"flat": None, "wide": TREE}).steps_of("flat", "wide"),
                         (("fill", "sbd", "sb", "sd"),))


class TreesOfQueries(unittest.TestCase):
    def test_all(self):
        for seed in range(30):
            query = draw_query(rng_of("all trees", seed), most_core=4)
            told = {tree for tree in told_trees(query.core) if puts_least_first(tree)}
            found = list(all_trees(query))
            self.assertEqual((len(found), set(found)), (len(told), told))
            for tree in sorted(told_trees(query.core), key=repr):
                self.assertIs(is_tree(query, tree), True)
                self.assertEqual(list(nodes(tree)), [leaves(node) for node in told_nodes(tree)])
        self.assertEqual(len(told), len(list(all_trees(query))))

    def test_four_roles(self):
        query = Query({"t": ("x",)}, (), a=("core", "t"), b=("core", "t"), c=("core", "t"), d=("core", "t"))
        self.assertEqual(len(list(all_trees(query))), 15)
        self.assertEqual(list(nodes(("d", ("b", ("a", "c"))))),
                         [("d",), ("b",), ("a",), ("c",), ("a", "c"), ("a", "b", "c"), ("a", "b", "c", "d")])

    def test_values(self):
        query = shop_query()
        single = Query({"a": ("x",)}, (), c=("core", "a"))
        for value in everything():
            self.assertIs(is_tree(query, value), told_tree(query, value))
            self.assertIs(is_tree(single, value), value == "c")
            for judged in ((("c", "o"), value), (("c", value), "i"), ((value, "i"), ("c", "o")), (("c", "o", value), "i")):
                self.assertIs(is_tree(query, judged), told_tree(query, judged), judged)
        for judged in (["c", ("i", "o")], (["c", "o"], "i"), ("c", "o", "i"), (("c", "o"), "b"), ("c", "o"), (("c", "o"), ("i", "b")),
                       (("c", "c"), ("o", "i")), None):
            self.assertIs(is_tree(query, judged), False)
        self.assertIs(is_tree(query, ("o", ("i", "c"))), True)

    def test_nodes_errors(self):
        def fails(value):
            made = nodes(value)
            with self.assertRaises(InvalidTree):
                next(made)
        for value in those_not(lambda value: named(value) or value == ("c", "o") or (
                isinstance(value, tuple) and len(value) == 2 and all(map(named, value)) and value[0] != value[1])
                or value == (("c", "o"), "i")):
            fails(value)
            fails(("zz", value)) if not named(value) and not isinstance(value, tuple) else None
        for value in (("a", "a"), (("a", "b"), ("c", "a")), ((("a", "b"), ("c", "d")), "e"), ["a", "b"], ("a", "b", "c"), ("a",), ()):
            fails(value)
        self.assertEqual(list(nodes("anything")), [("anything",)])
        self.assertEqual(list(nodes((("d", "c"), ("b", "a"))))[-1], ("a", "b", "c", "d"))


class Plans(unittest.TestCase):
    def test_against_a_second_making(self):
        seen = Counter()
        for rng, query, trees in drawn(300):
            told = Trees(query, trees)
            for name, tree in trees.items():
                self.assertEqual(plan_by(query, tree), told.plan(tree))
            stores = told.stores()
            if len(stores) > 12:
                for call in (stores_by, scheme_by):
                    with self.assertRaises(TooMany) as caught:
                        call(query, trees)
                    self.assertEqual(caught.exception.limit, 12)
                seen["many"] += 1
                continue
            self.assertEqual(list(stores_by(query, trees).items()), sorted(stores.items()))
            self.check_scheme(rng, query, trees, told)
            seen[query.optional is not None] += 1
        self.assertTrue(min(seen[True], seen[False]) > 10 and seen["many"] > 2, seen)

    def check_scheme(self, rng, query, trees, told):
        scheme = scheme_by(query, trees)
        self.assertTrue(scheme == told.scheme())
        self.assertEqual((scheme.first, scheme.lasting), (min(trees), ()))
        first, lasting = rng.choice(sorted(trees)), subset(rng, query.tables)
        other = scheme_by(query, trees, first=first, lasting=lasting)
        self.assertTrue(other == with_lasting(scheme, lasting).with_first(first))
        self.assertEqual(other.reached, tuple(sorted(trees)))
        self.assertIs(other.is_single, True)

    def test_each_pipeline(self):
        """The document's words, for a query with a side role that has two ties, and with two gates."""
        query = Query({"p": ("x", "y"), "q": ("x",), "t": ("x", "y")},
                      (("a", "x", "n", "x"), ("a", "x", "s", "x"), ("b", "y", "n", "y")),
                      a=("core", "t"), b=("core", "t"), c=("core", "t"), n=("none", "p"), s=("some", "q"))
        plan = plan_by(query, ("c", ("b", "a")))
        self.assertEqual(plan["add", "a"], (
            steps("join sb, recount nd sd"), steps("recount ne se"),
            steps("update sa, join sb, update sab, join sc, none nd, some ne, emit")))
        self.assertEqual(plan["remove", "a"], (steps("update sa, join sb, update sab, join sc, none nd, some ne, emit"),))
        self.assertEqual(plan["add", "b"], (
            steps("join sa, recount nd sd"), steps("update sb, join sa, update sab, join sc, none nd, some ne, emit")))
        self.assertEqual(plan["add", "c"], (steps("update sc, join sab, none nd, some ne, emit"),))
        self.assertEqual(plan["add", "n"], (steps("update sd, join sa, join sb, count nd, join sc, some ne, emit"),))
        self.assertEqual(plan["remove", "s"], (steps("update se, join sa, count ne, join sb, join sc, none nd, emit"),))
        self.assertEqual(plan_by(query, None)["remove", "b"], (steps("update sb, join sa, join sc, none nd, some ne, emit"),))

    def test_an_optional_role(self):
        query = Query({"p": ("x",), "t": ("x",)}, (("b", "x", "z", "x"),),
                      b=("core", "t"), c=("core", "t"), d=("core", "t"), z=("optional", "p"))
        plan = plan_by(query, (("b", "c"), "d"))
        self.assertEqual(plan["add", "b"], (
            steps("recount nd sd"), steps("update sa, join sb, update sab, join sc, join sd, emit"),
            steps("join sb, join sc, none nd, emit")))
        self.assertEqual(plan["add", "d"], (steps("update sc, join sab, join sd, emit"), steps("join sab, none nd, emit")))
        self.assertEqual(plan["remove", "z"], (steps("update sd, join sa, join sb, join sc, emit"),
                                               steps("join sa, count nd, join sb, join sc, emit")))
        self.assertEqual(plan["add", "z"], plan["remove", "z"])

    def test_letters_go_by_all_roles(self):
        query = Query({"p": ("x",), "t": ("x",)}, (("m", "x", "zz", "x"),), m=("some", "p"), b=("core", "t"), zz=("core", "t"))
        self.assertEqual(stores_by(query, {"q": None}), {"nb": ("counter", "m"), "sa": ("plain", ("b",)),
                                                         "sb": ("plain", ("m",)), "sc": ("plain", ("zz",))})
        self.assertEqual(list(stores_by(query, {"q": None})), ["nb", "sa", "sb", "sc"])

    def test_fills_in_the_order_of_nodes(self):
        query = Query({"t": ("x",)}, (), a=("core", "t"), b=("core", "t"), c=("core", "t"), d=("core", "t"))
        scheme = scheme_by(query, {"p": None, "q": ((("d", "b"), "a"), "c"), "r": (("a", ("b", "d")), "c"), "s": (("c", "d"), ("a", "b"))})
        self.assertEqual(scheme.steps_of("p", "q"), steps("fill sbd sd sb, fill sabd sbd sa"))
        self.assertEqual([scheme.steps_of("q", "r"), scheme.steps_of("q", "p"), scheme.steps_of("s", "r")],
                         [(), (), steps("fill sbd sb sd, fill sabd sa sbd")])
        self.assertEqual(scheme.steps_of("r", "s"), steps("fill scd sc sd, fill sab sa sb"))

    def test_errors(self):
        query, good = shop_query(), {"flat": None, "wide": TREE}
        for value in those_not(lambda value: isinstance(value, Query)):
            for tree in (TREE, None, 5):
                with self.assertRaises(InvalidQuery):
                    plan_by(value, tree)
                with self.assertRaises(InvalidQuery):
                    is_tree(value, tree)
            for call in (stores_by, scheme_by):
                for trees in (good, None):
                    with self.assertRaises(InvalidQuery):
                        call(value, trees)
            with self.assertRaises(InvalidQuery):
                next(all_trees(value))
        wrong = those_not(lambda value: value is None or told_tree(query, value)) + ["c", ("c", "o"), [("c", "o"), "i"]]
        for value in wrong:
            with self.assertRaises(InvalidTree):
                plan_by(query, value)
            for call in (stores_by, scheme_by):
                with self.assertRaises(InvalidTree):
                    call(query, {"flat": TREE, "wide": value})
        for value in those_not(lambda value: False) + [{}, {"Flat": None}, {**good, 1: None}, dict.fromkeys("abcdefg")]:
            with self.assertRaises(InvalidTree):
                stores_by(query, value)
            with self.assertRaises(InvalidTree):
                scheme_by(query, value, first=5, lasting=5)
        self.assertEqual(len(scheme_by(query, dict.fromkeys("abcdef"))), 6)

    def test_errors_of_keywords(self):
        query, good = shop_query(), {"flat": None, "wide": TREE}
        for value in those_not(lambda value: value is None or value in ("flat", "wide")):
            for lasting in ((), 5):
                with self.assertRaises(UnknownName) as caught:
                    scheme_by(query, good, first=value, lasting=lasting)
                self.assertIs(caught.exception.name, value)
        for value in those_not(lambda value: value == ()) + [("ord", "cus"), ("cus", "cus"), ["cus"], ("late",), "cus"]:
            if value not in (("cus",), ("ord",)):
                with self.assertRaises(InvalidTable):
                    scheme_by(query, good, lasting=value)
        four = Query({"t": ("x",), "u": ("x",), "v": ("x",)}, (("a", "x", "y", "x"), ("b", "x", "z", "x")), a=("core", "t"),
                     b=("core", "t"), c=("core", "t"), d=("core", "t"), y=("none", "u"), z=("some", "v"))
        trees = {"p": (("a", "b"), ("c", "d")), "q": (("a", "c"), ("b", "d")), "r": (("a", "d"), ("b", "c"))}
        self.assertEqual(len(stores_by(four, {"p": trees["p"], "q": trees["q"]})), 12)
        with self.assertRaises(TooMany):
            scheme_by(four, trees)
        for first, lasting, error in (("x", ("u",), UnknownName), ("p", ("x",), InvalidTable), (None, 5, InvalidTable)):
            with self.assertRaises(error):
                scheme_by(four, trees, first=first, lasting=lasting)


class Right(unittest.TestCase):
    def test_local_certificates(self):
        for rng, query, trees in drawn(60, "certified", most_core=3):
            scheme = scheme_by(query, trees, lasting=subset(rng, query.tables), first=rng.choice(sorted(trees)))
            value = local_of(scheme)
            self.assertIsNotNone(value)
            self.assertIs(is_local(scheme, value), True)
            full = tuple((plan, tuple(sorted(set(Trees(query, trees).stores()) - self.not_kept(query, trees, trees[plan]))))
                         for plan in sorted(trees))
            self.assertIs(is_local(scheme, ("local", full)), True)

    def not_kept(self, query, trees, tree):
        """The stores of nodes that the plan by this tree does not keep up."""
        made = Trees(query, trees)
        kept = {leaves(node) for node in made.kept(tree)}
        return {made.store(leaves(node)) for other in trees.values() for node in made.kept(other) if leaves(node) not in kept}

    def test_no_wrong_event_is_reached(self):
        for rng, query, trees in drawn(16, "reached", most_core=2, plans=2):
            self.assertIsNotNone(Reach(scheme_by(query, trees)).invariant)

    def test_drawn_histories(self):
        moves, switches = Counter(), 0
        for rng, query, trees in drawn(260, "histories"):
            try:
                scheme = scheme_by(query, trees, lasting=subset(rng, query.tables) if rng.random() < 0.3 else ())
            except TooMany:
                continue
            engine = Engine(scheme)
            for _ in range(22):
                event = draw_event(rng, scheme, engine.plan, engine.world.rows, most=rng.choice((1, 1, 2)))
                engine(event)
                try:
                    self.assertIs(engine.is_right(), True, engine.log)
                except TooMany:
                    break
                switches += event[0] == "switch"
                for role, _, many in engine.moves:
                    moves[query.sort_of(role), many] += 1
        self.assertGreater(switches, 150)
        for sort in ("core", "some", "none", "optional"):
            self.assertGreater(min(moves[sort, 1], moves[sort, -1]), 10)

    def test_other_orders_lead_to_the_same_output(self):
        results = 0
        for rng, query, trees in drawn(70, "orders", plans=2):
            try:
                scheme = scheme_by(query, trees)
            except TooMany:
                continue
            rows = []
            for _ in range(7):
                table = rng.choice(sorted(query.tables))
                rows.append((table, draw_row(rng, query, table, most=1)))
            told = Counter(self.values(query, dict(enumerate(rows, 1)), result)
                           for result in plain.results(query, dict(enumerate(rows, 1))))
            for _ in range(3):
                rng.shuffle(rows)
                engine = Engine(scheme)
                for row in rows:
                    if rng.random() < 0.3 and len(trees) > 1:
                        engine.switch(next(name for name in trees if name != engine.plan))
                    engine.add(*row)
                found = Counter()
                for result, many in engine.output.pairs():
                    found[self.values(query, engine.world.rows, result)] += many
                self.assertEqual(found, told)
            results += len(told)
        self.assertGreater(results, 100)

    def values(self, query, rows, result):
        """A result with rows in the place of keys."""
        return tuple(None if key is None else rows[key] for key in result)


if __name__ == "__main__":
    unittest.main()
