import itertools
import unittest

import shelfroutes.query.worlds as worlds
from shelfroutes.errors import (InvalidNumber, InvalidOperation, InvalidQuery, InvalidRow, TooMany, UnknownKey,
                                UnknownName)
from shelfroutes.query.queries import Query
from shelfroutes.query.worlds import MAX_RESULTS, MAX_ROWS, World, fitting, is_due, matches, results
from tests import plain
from tests.draws import draw_query, draw_rows, rng_of, subset
from tests.shop import shop_query
from tests.values import LONGEST, TOO_LONG, everything, those_not, whole

DAY = {1: ("cus", (1, 5)), 2: ("ord", (1, 7)), 3: ("item", (7,)), 4: ("ord", (1, 7))}


def day():
    return World(shop_query(), rows=DAY)


def is_told_key(value):
    return whole(value) and value >= 1


def is_told_row(query, table, value):
    return isinstance(value, tuple) and len(value) == len(query.tables[table]) and all(whole(part) for part in value)


def is_told_rows(query, value):
    if value is None:
        return True
    return isinstance(value, dict) and all(
        is_told_key(key) and isinstance(pair, tuple) and len(pair) == 2 and isinstance(pair[0], str)
        and pair[0] in query.tables and is_told_row(query, *pair) for key, pair in value.items())


def many_rows(many, table="item", row=(7,)):
    return {key: (table, row) for key in range(1, many + 1)}


class Interface(unittest.TestCase):
    def test_constants(self):
        self.assertEqual((MAX_ROWS, MAX_RESULTS), (100, 2000))

    def test_where_all_is_defined(self):
        for made in (World, matches, fitting, is_due, results):
            self.assertEqual(made.__module__, "shelfroutes.query.worlds")
        for name in ("__init__", "query", "rows", "__getitem__", "keys_of", "with_row", "__sub__", "is_within",
                     "__contains__", "__len__", "__eq__", "__str__"):
            self.assertIn(name, vars(World))

    def test_example(self):
        world = day()
        self.assertEqual(
            [results(world).results(), matches(world, ("c", "o")), matches(world, ("b", "c")), world.keys_of("ord"),
             world[3]],
            [((1, 3, 2), (1, 3, 4)), ((1, 2), (1, 4)), (), (2, 4), ("item", (7,))])
        shut = world.with_row(9, "block", (5,))
        self.assertEqual(
            [len(results(shut)), fitting(shut, "b", (1,)), is_due(shut, (1, 3, 2)), (shut - world).rows,
             world.is_within(shut)],
            [0, (9,), False, {9: ("block", (5,))}, True])


class Made(unittest.TestCase):
    def test_rows(self):
        self.assertEqual(World(shop_query()).rows, {})
        self.assertEqual(World(shop_query(), rows=None).rows, {})
        self.assertEqual(World(shop_query(), rows={}), World(shop_query()))
        world = World(shop_query(), rows={4: DAY[4], LONGEST: ("item", (-LONGEST,)), 1: DAY[1]})
        self.assertEqual(list(world.rows), [1, 4, LONGEST])
        self.assertEqual((world.query, len(world)), (shop_query(), 3))

    def test_queries(self):
        for value in those_not(lambda value: isinstance(value, Query)):
            for rows in (None, DAY, 5):
                with self.assertRaises(InvalidQuery):
                    World(value, rows=rows)

    def test_invalid_rows(self):
        query = shop_query()
        for value in those_not(lambda value: is_told_rows(query, value)):
            with self.assertRaises(InvalidRow):
                World(query, rows=value)
        for value in those_not(lambda value: isinstance(value, tuple) and len(value) == 2 and value[0] in
                               list(query.tables) and is_told_row(query, *value)):
            with self.assertRaises(InvalidRow):
                World(query, rows={1: DAY[1], 2: value})
        for value in those_not(lambda value: is_told_row(query, "cus", value)):
            with self.assertRaises(InvalidRow):
                World(query, rows={1: ("cus", value)})
        for value in those_not(lambda value: isinstance(value, str) and value in query.tables):
            with self.assertRaises(InvalidRow):
                World(query, rows={1: (value, (1, 5))})
        for pair in (("cus", (1, 5), 1), ("cus",), ["cus", (1, 5)], ("cus", [1, 5]), ((1, 5), "cus")):
            with self.assertRaises(InvalidRow):
                World(query, rows={1: pair})
        for key in (0, -1, TOO_LONG, True, None, "a", (1,), ()):
            with self.assertRaises(InvalidRow):
                World(query, rows={key: DAY[1]})
            with self.assertRaises(InvalidRow):
                World(query, rows={key: DAY[1], **{other + 1: DAY[3] for other in range(1, 120)}})

    def test_keywords_alone(self):
        with self.assertRaises(TypeError):
            World(shop_query(), DAY)

    def test_a_hundred_rows(self):
        world = World(shop_query(), rows=many_rows(100))
        self.assertEqual(len(world), 100)
        with self.assertRaises(TooMany) as caught:
            World(shop_query(), rows=many_rows(101))
        self.assertEqual(caught.exception.limit, 100)
        with self.assertRaises(TooMany):
            world.with_row(101, "item", (1,))
        self.assertEqual(world.with_row(100, "ord", (1, 7)).keys_of("ord"), (100,))
        for wrong in ((0, "item", (1,)), (101, "item", (1, 2)), (101, "none", (1,))):
            with self.assertRaises((InvalidNumber, InvalidRow, UnknownName)):
                world.with_row(*wrong)

    def test_nothing_gives_access(self):
        rows = dict(DAY)
        world = World(shop_query(), rows=rows)
        rows[9] = ("item", (1,))
        del rows[1]
        self.assertEqual(world, day())
        world.rows[9] = ("item", (1,))
        world.rows.clear()
        self.assertEqual(world.rows, DAY)


class Read(unittest.TestCase):
    def test_items_and_in(self):
        world = day()
        for value in everything():
            self.assertIs(value in world, whole(value) and value in (1, 2, 3, 4))
            if not (whole(value) and value in (1, 2, 3, 4)):
                with self.assertRaises(UnknownKey) as caught:
                    world[value]
                self.assertIs(caught.exception.key, value)
        self.assertEqual([world[key] for key in DAY], list(DAY.values()))
        self.assertFalse(True in world or 5 in world)

    def test_keys_of(self):
        world = day()
        self.assertEqual([world.keys_of(table) for table in ("block", "cus", "item", "ord")], [(), (1,), (3,), (2, 4)])
        for value in those_not(lambda value: isinstance(value, str) and value in world.query.tables):
            with self.assertRaises(UnknownName) as caught:
                world.keys_of(value)
            self.assertIs(caught.exception.name, value)

    def test_not_iterated_over(self):
        with self.assertRaises(TypeError):
            list(day())

    def test_text_and_equality(self):
        self.assertEqual([str(World(shop_query())), str(day())], ["world of 0 rows", "world of 4 rows"])
        world = day()
        for value in everything():
            self.assertIs(world == value, False)
            self.assertIs(world != value, True)
        other = Query(world.query.tables, (), c=("core", "cus"))
        self.assertFalse(World(other, rows=DAY) == world)
        self.assertTrue(world == day())
        self.assertFalse(world != day())
        self.assertFalse(world == world.with_row(2, "ord", (1, 8)))
        self.assertFalse(world == world.with_row(5, "ord", (1, 7)))


class WithRow(unittest.TestCase):
    def test_rows_are_added_and_replaced(self):
        world = day()
        self.assertEqual(world.with_row(9, "block", (5,)).rows, {**DAY, 9: ("block", (5,))})
        self.assertEqual(world.with_row(1, "item", (0,)).rows, {**DAY, 1: ("item", (0,))})
        self.assertEqual(list(world.with_row(3, "cus", (0, 0)).rows), [1, 2, 3, 4])
        self.assertEqual(world, day())

    def test_errors_in_their_order(self):
        world = day()
        for value in those_not(is_told_key):
            for table, row in (("cus", (1, 5)), (None, None)):
                with self.assertRaises(InvalidNumber) as caught:
                    world.with_row(value, table, row)
                self.assertIs(caught.exception.value, value)
        for value in those_not(lambda value: isinstance(value, str) and value in world.query.tables):
            for row in ((1, 5), None):
                with self.assertRaises(UnknownName) as caught:
                    world.with_row(5, value, row)
                self.assertIs(caught.exception.name, value)
        for value in those_not(lambda value: is_told_row(world.query, "cus", value)):
            with self.assertRaises(InvalidRow):
                world.with_row(5, "cus", value)
        self.assertEqual(world, day())

    def test_differences(self):
        world = day()
        other = World(shop_query(), rows={1: ("cus", (1, 5)), 2: ("ord", (1, 8)), 5: ("item", (7,))})
        self.assertEqual((world - other).rows, {key: DAY[key] for key in (2, 3, 4)})
        self.assertEqual((other - world).rows, {2: ("ord", (1, 8)), 5: ("item", (7,))})
        self.assertEqual(world - world, World(shop_query()))
        self.assertEqual([world.is_within(other), other.is_within(world), world.is_within(world)], [False, False, True])
        self.assertIs(World(shop_query()).is_within(other), True)
        self.assertIs((world - other).is_within(world), True)

    def test_wrong_others(self):
        world = day()
        wrong = those_not(lambda value: isinstance(value, World))
        wrong += [World(Query(world.query.tables, (), c=("core", "cus"))), World(world.query.without("b"), rows=DAY)]
        for value in wrong:
            with self.assertRaises(InvalidOperation):
                world - value
            with self.assertRaises(InvalidOperation):
                world.is_within(value)
        self.assertEqual(world - World(shop_query()), world)


class Wrong(unittest.TestCase):
    """Wrong arguments of the functions, alone and with a later one."""

    def test_worlds(self):
        for value in those_not(lambda value: isinstance(value, World)):
            calls = [lambda: results(value)]
            calls += [lambda more=more: matches(value, more) for more in (("c",), None)]
            calls += [lambda more=more: is_due(value, more) for more in ((1, 3, 2), None)]
            calls += [lambda more=more: fitting(value, *more) for more in (("b", (1,)), (None, (1,)), (None, None))]
            for call in calls:
                with self.assertRaises(InvalidOperation):
                    call()

    def test_roles_of_matches(self):
        world = day()
        subsets = [roles for many in range(1, 5) for roles in itertools.combinations("bcio", many)]
        for value in those_not(lambda value: value in subsets):
            with self.assertRaises(InvalidOperation):
                matches(world, value)
        for value in ((), ("o", "c"), ("c", "c"), ["c"], "c", ("c", "x"), ("c", 1), ("c", ()), ("b", "c", "i", "o", "z")):
            with self.assertRaises(InvalidOperation):
                matches(world, value)
        for roles in subsets:
            self.assertIsInstance(matches(world, roles), tuple)
        tables = {"k": ("x",), "m": ("x",), "n": ("x",)}
        tests = (("c", "x", "e", "x"), ("c", "x", "f", "x"))
        query = Query(tables, tests, c=("core", "k"), e=("some", "m"), f=("none", "n"))
        two = World(query, rows={1: ("k", (1,)), 2: ("m", (1,)), 3: ("n", (1,))})
        self.assertEqual([matches(two, roles) for roles in (("e",), ("f",), ("c", "e"), ("c", "f"))],
                         [((2,),), ((3,),), ((1, 2),), ((1, 3),)])
        for roles in (("e", "f"), ("c", "e", "f")):
            with self.assertRaises(InvalidOperation):
                matches(two, roles)

    def test_roles_of_fitting(self):
        world = day().with_row(5, "block", (5,))
        for value in those_not(lambda value: value == "b") + ["c", "o"]:
            for match in ((1,), None):
                with self.assertRaises(UnknownName) as caught:
                    fitting(world, value, match)
                self.assertIs(caught.exception.name, value)

    def test_matches_of_fitting(self):
        world = day().with_row(5, "block", (5,))
        for value in those_not(lambda value: value == (1,) and not isinstance(value[0], bool)):
            with self.assertRaises(InvalidOperation):
                fitting(world, "b", value)
        for value in ((2,), (5,), (9,), (True,), (1, 2), (), [1], 1, ((1,),), (TOO_LONG,)):
            with self.assertRaises(InvalidOperation):
                fitting(world, "b", value)
        self.assertEqual(fitting(world, "b", (1,)), (5,))

    def test_full_matches(self):
        world = day().with_row(6, "ord", (2, 7))
        for value in those_not(lambda value: False):
            with self.assertRaises(InvalidOperation):
                is_due(world, value)
        for value in ((1, 3, 6), (1, 2, 3), (1, 3), (1, 3, 2, 4), (1, 3, 9), [1, 3, 2], (True, 3, 2)):
            with self.assertRaises(InvalidOperation):
                is_due(world, value)
        self.assertIs(is_due(world, (1, 3, 4)), True)

    def test_fitting_of_two_ties_asks_for_their_tests(self):
        tables = {"k": ("x", "y"), "m": ("x", "y", "z")}
        tests = (("c", "x", "d", "x"), ("c", "y", "e", "y"), ("d", "y", "e", "z"))
        query = Query(tables, tests, c=("core", "k"), d=("core", "k"), e=("some", "m"))
        rows = {1: ("k", (1, 2)), 2: ("k", (1, 3)), 3: ("k", (2, 3)), 4: ("m", (0, 2, 3)), 5: ("m", (9, 2, 3)),
                6: ("m", (0, 2, 2))}
        world = World(query, rows=rows)
        self.assertEqual([fitting(world, "e", match) for match in ((1, 2), (1, 1), (2, 1), (2, 2))],
                         [(4, 5), (6,), (), ()])
        for match in ((1, 3), (1,), (1, 2, 4), (1, 4)):
            with self.assertRaises(InvalidOperation):
                fitting(world, "e", match)


class Bounds(unittest.TestCase):
    def two_tables(self, ones, others, more=()):
        query = Query({"k": ("x",), "m": ("x",), "n": ("x",)}, tuple(more), c=("core", "k"), d=("core", "m"),
                      **({"e": ("optional", "n")} if more else {}))
        rows = {key: ("k", (1,)) for key in range(1, ones + 1)}
        rows.update({ones + key: ("m", (1,)) for key in range(1, others + 1)})
        return query, rows

    def test_two_thousand_matches(self):
        query, rows = self.two_tables(40, 50)
        world = World(query, rows=rows)
        self.assertEqual((len(matches(world, ("c", "d"))), len(results(world))), (2000, 2000))
        self.assertEqual(matches(world, ("c", "d"))[:2], ((1, 41), (1, 42)))
        for count in ((41, 49), (44, 46), (50, 50)):
            query, rows = self.two_tables(*count)
            world = World(query, rows=rows)
            for call in (lambda: matches(world, ("c", "d")), lambda: results(world)):
                with self.assertRaises(TooMany) as caught:
                    call()
                self.assertEqual(caught.exception.limit, 2000)
            self.assertEqual(len(matches(world, ("c",))), count[0])

    def test_errors_of_arguments_come_first(self):
        query, rows = self.two_tables(50, 50)
        with self.assertRaises(InvalidOperation):
            matches(World(query, rows=rows), ("d", "c"))
        with self.assertRaises(InvalidOperation):
            matches(None, ("c", "d"))

    def test_two_thousand_results_with_an_optional_role(self):
        query, rows = self.two_tables(20, 25, [("c", "x", "e", "x")])
        for many, fits in ((0, True), (1, True), (4, True), (5, False), (40, False)):
            told = {**rows, **{100 + key: ("n", (1,)) for key in range(1, many + 1)}}
            world = World(query, rows=told)
            self.assertEqual(len(matches(world, ("c", "d"))), 500)
            if fits:
                self.assertEqual(len(results(world)), 500 * max(many, 1))
            else:
                with self.assertRaises(TooMany) as caught:
                    results(world)
                self.assertEqual(caught.exception.limit, 2000)

    def test_many_full_matches_without_results(self):
        """More than two thousand full matches are too many for `results`, also if none of them is due."""
        query = Query({"k": ("x",), "m": ("x",)}, (("c", "x", "e", "x"),), c=("core", "k"), d=("core", "k"),
                      e=("some", "m"))
        world = World(query, rows=many_rows(45, "k", (1,)))
        with self.assertRaises(TooMany):
            results(world)
        self.assertIs(is_due(world, (1, 2)), False)
        self.assertEqual(len(results(World(query, rows=many_rows(44, "k", (1,))))), 0)

    def test_four_roles_of_one_table(self):
        query = Query({"t": ("x",)}, (), a=("core", "t"), b=("core", "t"), c=("core", "t"), d=("core", "t"))
        with self.assertRaises(TooMany):
            results(World(query, rows=many_rows(100, "t", (1,))))
        self.assertEqual(len(results(World(query, rows=many_rows(6, "t", (1,))))), 6 ** 4)

    def test_hundred_rows_in_each_of_four_roles_that_hardly_fit(self):
        tests = (("a", "x", "b", "x"), ("b", "y", "c", "y"), ("c", "x", "d", "y"))
        query = Query({"t": ("x", "y")}, tests, a=("core", "t"), b=("core", "t"), c=("core", "t"), d=("core", "t"))
        rows = {key: ("t", (key, key + 1000)) for key in range(1, 101)}
        self.assertEqual(len(results(World(query, rows=rows))), 0)
        rows[100] = ("t", (7, 7))
        self.assertEqual(results(World(query, rows=rows)).results(),
                         ((7, 7, 7, 100), (7, 100, 100, 100), (100, 7, 7, 100), (100, 100, 100, 100)))


class Compared(unittest.TestCase):
    """With a plain search through all rows of all roles."""

    def check(self, query, rows, rng):
        world = World(query, rows=rows)
        for _ in range(3):
            sides = subset(rng, query.sides)[:1]
            roles = tuple(sorted(subset(rng, query.core, least=0 if sides else 1) + sides))
            self.assertEqual(matches(world, roles), plain.all_matches(query, rows, roles))
        full = plain.all_matches(query, rows, plain.cores(query))
        told = plain.results(query, rows)
        self.assertEqual(results(world).pairs(), tuple((result, 1) for result in sorted(
            told, key=lambda result: [-1 if key is None else key for key in result])))
        for match in full[:8]:
            self.assertIs(is_due(world, match), plain.due(query, rows, match))
            for side in query.sides:
                tied = dict(zip(query.core, match))
                keys = tuple(tied[role] for role in plain.ties(query, side))
                self.assertEqual(fitting(world, side, keys), plain.fits(query, rows, dict(zip(query.ties(side), keys)), side))
        return len(told), len(full)

    def test_drawn_worlds(self):
        due = found = 0
        for seed in range(500):
            rng = rng_of("worlds", seed)
            query = draw_query(rng, most_core=4)
            rows = draw_rows(rng, query, rng.randint(0, 9), most=rng.choice((0, 1, 1, 2)))
            one, other = self.check(query, rows, rng)
            due, found = due + one, found + other
        self.assertGreater(due, 500)
        self.assertGreater(found, due)

    def test_sorts_of_side_roles(self):
        """Each sort, two ties, shared tables, and a role that has tests with two others."""
        tables = {"k": ("x", "y"), "m": ("x", "y", "z"), "n": ("x",)}
        tests = (("c", "x", "d", "x"), ("c", "y", "e", "y"), ("d", "y", "e", "z"))
        rows = {1: ("k", (1, 2)), 2: ("k", (1, 3)), 3: ("k", (1, 2)), 4: ("m", (0, 2, 3)), 7: ("m", (5, 2, 3)),
                8: ("m", (5, 3, 3)), 9: ("n", (1,))}
        told = {"some": 3, "none": 6, "optional": 11}
        for sort, many in told.items():
            query = Query(tables, tests, c=("core", "k"), d=("core", "k"), e=(sort, "m"))
            world = World(query, rows=rows)
            self.assertEqual(results(world).results(), tuple(sorted(
                plain.results(query, rows), key=lambda result: [-1 if key is None else key for key in result])))
            self.assertEqual(len(results(world)), many)
        gap = results(World(query, rows=rows)).results()[0]
        self.assertEqual(gap, (1, 1, None))

    def test_rows_that_fit_no_role(self):
        tables = {"k": ("x",), "m": ("x",)}
        query = Query(tables, (), c=("core", "k"))
        world = World(query, rows={1: ("k", (1,)), 2: ("m", (1,)), 3: ("m", (2,))})
        self.assertEqual((results(world).results(), world.keys_of("m")), (((1,),), (2, 3)))


if __name__ == "__main__":
    unittest.main()
