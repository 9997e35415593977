import itertools
import unittest

from shelfroutes.errors import (InvalidNumber, InvalidOperation, InvalidQuery, InvalidRow, InvalidTable,
                                UnknownName)
import shelfroutes.query.queries as queries
from shelfroutes.query.queries import MAX_CORE, MAX_SIDE, MAX_TABLES, MAX_TESTS, Query
from tests.shop import ROLES, TABLES, TESTS, shop_query
from tests.values import LONGEST, everything, named, those_not, whole

LETTERS = "abcdefghijklmnopqrstuvwxyz"
SORTS = ("core", "some", "none", "optional")


def is_told_columns(value):
    return (isinstance(value, tuple) and 1 <= len(value) <= 6 and all(named(column) for column in value)
            and list(value) == sorted(set(value)))


def is_told_tables(value):
    return (isinstance(value, dict) and 1 <= len(value) <= 6
            and all(named(name) and is_told_columns(value[name]) for name in value))


def wide_tables(many):
    return {LETTERS[at]: tuple("abcdef"[:at % 6 + 1]) for at in range(many)}


class Checked(unittest.TestCase):
    def accepted(self, tables, tests, roles):
        query = Query(tables, tests, **roles)
        self.assertEqual((query.tables, query.tests, query.roles), (tables, tests, roles))
        self.assertTrue(Query.of(tables, tests, roles) == query)
        return query

    def refused(self, error, tables, tests, roles):
        with self.assertRaises(error):
            Query.of(tables, tests, roles)
        if isinstance(roles, dict) and all(isinstance(role, str) for role in roles):
            if not {"self", "tables", "tests"} & set(roles):
                with self.assertRaises(error):
                    Query(tables, tests, **roles)


class Tables(Checked):
    def test_constants(self):
        self.assertEqual((MAX_TABLES, MAX_CORE, MAX_SIDE, MAX_TESTS), (6, 4, 2, 20))

    def test_members_are_defined_in_the_class(self):
        self.assertEqual(Query.__module__, "shelfroutes.query.queries")
        for name in ("of", "tables", "roles", "tests", "core", "sides", "optional", "sort_of", "table_of", "columns_of",
                     "played", "ties", "pairs", "accepts", "sample", "without", "is_within", "is_sort", "__init__",
                     "__getitem__", "__contains__", "__len__", "__eq__", "__str__"):
            self.assertIn(name, vars(Query))

    def test_one_to_six_tables_and_columns(self):
        for many in range(1, 7):
            self.accepted(wide_tables(many), (), {"c": ("core", LETTERS[many - 1])})
        self.refused(InvalidTable, {}, (), {"c": ("core", "a")})
        self.refused(InvalidTable, wide_tables(7), (), {"c": ("core", "a")})

    def test_columns(self):
        for columns in (("a",), ("abcdefgh",), tuple("abcdef"), ("a", "aa", "b")):
            self.accepted({"t": columns}, (), {"c": ("core", "t")})
        for columns in ((), tuple("abcdefg"), ("b", "a"), ("a", "a"), ("a", "b", "b"), ("abcdefghi",), ["a"], "a",
                        ("a", 1), (1, 2), ("",), None, (("a",),)):
            self.refused(InvalidTable, {"t": columns}, (), {"c": ("core", "t")})
            self.refused(InvalidTable, {"s": ("a",), "t": columns}, (), {"c": ("core", "s")})

    def test_names_of_tables(self):
        for name in ("t", "abcdefgh", "self"):
            self.accepted({name: ("a",)}, (), {"c": ("core", name)})
        for name in ("", "abcdefghi", "T", "t1", 1, None, True, ("t",)):
            self.refused(InvalidTable, {name: ("a",)}, (), {"c": ("core", name)})
            self.refused(InvalidTable, {"t": ("a",), name: ("a",)}, (), {"c": ("core", "t")})

    def test_values_of_all_kinds(self):
        for value in those_not(is_told_tables):
            for tests, roles in ((TESTS, ROLES), (None, ROLES), ((1,), None), (value, value)):
                self.refused(InvalidTable, value, tests, roles)
        for value in those_not(is_told_columns):
            tables = dict(TABLES)
            tables["item"] = value
            self.refused(InvalidTable, tables, TESTS, ROLES)
            self.refused(InvalidTable, tables, value, value)
        for value in those_not(named):
            for tests in (TESTS, None):
                self.refused(InvalidTable, {"block": ("town",), "cus": ("code", value)}, tests, ROLES)

    def test_order_of_errors(self):
        self.refused(InvalidTable, None, None, None)
        self.refused(InvalidTable, {}, TESTS, {})
        self.refused(InvalidQuery, TABLES, None, None)


    def test_objects_of_the_module_are_no_tables(self):
        for kind in vars(queries).values():
            if isinstance(kind, type) and kind.__module__ == queries.__name__:
                self.refused(InvalidTable, kind.__new__(kind), (), {"c": ("core", "a")})
                self.refused(InvalidTable, kind.__new__(kind), 5, 5)

    def test_roles_with_names_of_parameters(self):
        roles = {"cls": ("core", "t"), "roles": ("core", "t"), "self": ("core", "t"), "tests": ("core", "t")}
        query = Query.of({"t": ("a",)}, (("cls", "a", "self", "a"),), roles)
        self.assertEqual((query.roles, query.core), (roles, ("cls", "roles", "self", "tests")))
        self.assertIs(type(query), Query)
        self.assertNotIn("a", query)
        self.assertEqual(query.without("cls").roles, {role: roles[role] for role in ("roles", "self", "tests")})


class Roles(Checked):
    def roles_of(self, sorts):
        """Tables, tests and roles with these sorts, each role with a table of its own or of core roles."""
        tables = {"x": tuple("abcdef")}
        roles = {}
        tests = []
        for at, sort in enumerate(sorts):
            if sort == "core":
                roles["z" + LETTERS[at]] = (sort, "x")
            else:
                tables["y" + LETTERS[at]] = ("a",)
                roles["a" + LETTERS[at]] = (sort, "y" + LETTERS[at])
                tests.append(("a" + LETTERS[at], "a", "z" + LETTERS[sorts.index("core")], "a"))
        return tables, tuple(sorted(tests)), dict(sorted(roles.items()))

    def test_numbers_of_roles(self):
        right = [("core",) * many for many in range(1, 5)]
        sides = [("some",), ("none",), ("optional",), ("some", "some"), ("none", "none"), ("some", "none")]
        right += [cores + side for cores in right for side in sides]
        for sorts in right:
            query = self.accepted(*self.roles_of(sorts))
            self.assertEqual((len(query.core), len(query)), (sorts.count("core"), len(sorts)))
            self.assertEqual(query.optional is not None, "optional" in sorts)
        wrong = [("core",) * 5, ("core",) * 6]
        wrong += [("core",) + side for side in (("some",) * 3, ("some", "none", "none"), ("optional", "optional"),
                                                ("optional", "some"), ("none", "optional"),
                                                ("optional", "some", "none"))]
        wrong += [("core",) * 4 + ("none",) * 3, ("core",) * 5 + ("some",)]
        for sorts in wrong:
            self.refused(InvalidQuery, *self.roles_of(sorts))

    def test_no_core_role(self):
        self.refused(InvalidQuery, TABLES, (), {})
        self.refused(InvalidQuery, TABLES, (), {"b": ("none", "block")})

    def test_several_roles_of_one_table(self):
        roles = {"a": ("core", "cus"), "b": ("core", "cus"), "c": ("core", "cus"), "d": ("core", "cus")}
        self.accepted(TABLES, (("a", "code", "b", "code"), ("a", "code", "c", "code")), roles)

    def test_names_of_roles(self):
        for role in ("c", "abcdefgh", "tables", "tests", "self", "cls", "roles", "core"):
            query = Query.of(TABLES, (), {role: ("core", "cus")})
            self.assertEqual((query.roles, query.core, query[role]), ({role: ("core", "cus")}, (role,),
                                                                     ("core", "cus")))
        for role in ("", "abcdefghi", "C", "c1", "c c", "c\n"):
            self.refused(InvalidQuery, TABLES, (), {role: ("core", "cus")})
            self.refused(InvalidQuery, TABLES, (), {"o": ("core", "ord"), role: ("core", "cus")})
        for role in (1, True, None, (), ("c",)):
            with self.assertRaises(InvalidQuery):
                Query.of(TABLES, (), {"o": ("core", "ord"), role: ("core", "cus")})

    def test_roles_of_the_names_of_parameters(self):
        tests = (("self", "code", "tests", "code"), ("tables", "town", "tests", "town"))
        roles = {"self": ("core", "ord"), "tables": ("some", "block"), "tests": ("core", "cus")}
        query = Query.of(TABLES, tests, roles)
        self.assertEqual((query.core, query.sides, query.ties("tables")), (("self", "tests"), ("tables",), ("tests",)))
        self.assertEqual(query.without("tables").roles, {"self": ("core", "ord"), "tests": ("core", "cus")})
        renamed = {"self": "a", "tables": "b", "tests": "c"}
        other = Query.of(TABLES, (("a", "code", "c", "code"), ("b", "town", "c", "town")),
                         {renamed[role]: roles[role] for role in roles})
        self.assertFalse(query == other)

    def test_pairs_of_a_sort_and_a_table(self):
        for pair in (("core",), ("core", "cus", "cus"), ["core", "cus"], ("cus", "core"), ("core", "shop"),
                     ("side", "cus"), ("Core", "cus"), ("core", None), (None, "cus"), ("core", ["cus"]), (["core"], "cus"),
                     (), None, "core", ("core", ("code", "town"))):
            self.refused(InvalidQuery, TABLES, (), {"c": pair})
            self.refused(InvalidQuery, TABLES, (), {"c": ("core", "cus"), "o": pair})

    def test_values_of_all_kinds(self):
        valid = lambda value: (isinstance(value, tuple) and len(value) == 2
                               and value[0] in SORTS and named(value[1]) and value[1] in TABLES)
        for value in those_not(lambda value: value == {"c": ("core", "cus")}):
            self.refused(InvalidQuery, TABLES, (), value)
            with self.assertRaises(InvalidQuery):
                Query.of(TABLES, None, value)
        for value in those_not(valid):
            self.refused(InvalidQuery, TABLES, (), {"c": value})
            self.refused(InvalidQuery, TABLES, (), {"c": value, "o": ("core", "ord")})
        for value in those_not(lambda value: value in SORTS):
            self.refused(InvalidQuery, TABLES, (), {"c": (value, "cus"), "o": ("core", "ord")})
            self.refused(InvalidQuery, TABLES, TESTS[:1], {"b": (value, "block"), "c": ("core", "cus")})
        for value in those_not(lambda value: named(value) and value in TABLES):
            self.refused(InvalidQuery, TABLES, (), {"c": ("core", value), "o": ("core", "ord")})


class Tests(Checked):
    def changed_tests(self, at, value):
        return TESTS[:at] + (value,) + TESTS[at + 1:]

    def test_default(self):
        query = Query({"t": ("a",)}, c=("core", "t"))
        self.assertEqual((query.tests, query), ((), Query({"t": ("a",)}, (), c=("core", "t"))))

    def test_twenty_and_twenty_one(self):
        tables = {"t": tuple("abcdef")}
        roles = {"c": ("core", "t"), "d": ("core", "t")}
        tests = tuple(("c", one, "d", other) for one in "abcdef" for other in "abcdef")
        for many in (0, 1, 2, 19, 20):
            self.assertEqual(len(self.accepted(tables, tests[:many], roles).tests), many)
        for many in (21, 22, 36):
            self.refused(InvalidQuery, tables, tests[:many], roles)

    def test_ascending(self):
        self.refused(InvalidQuery, TABLES, (TESTS[1], TESTS[0], TESTS[2]), ROLES)
        self.refused(InvalidQuery, TABLES, (TESTS[0], TESTS[2], TESTS[1]), ROLES)
        self.refused(InvalidQuery, TABLES, TESTS + (TESTS[2],), ROLES)
        self.refused(InvalidQuery, TABLES, list(TESTS), ROLES)

    def test_one_test(self):
        good = ("i", "code", "o", "item")
        self.accepted(TABLES, self.changed_tests(2, good), ROLES)
        for test in (("o", "item", "i", "code"), ("i", "code", "i", "code"), ("i", "code", "o"), (), good + ("x",),
                     list(good), ("i", "code", "x", "item"), ("h", "code", "o", "item"), ("i", "item", "o", "item"),
                     ("i", "code", "o", "town"), ("i", "town", "o", "code"), ("i", "code", "o", None),
                     ("i", "code", None, "item"), ("i", 1, "o", "item"), ("i", "code", "o", ["item"]),
                     ("i", ("code",), "o", "item"), ("item", "code", "ord", "item"), "icoi", None):
            self.refused(InvalidQuery, TABLES, self.changed_tests(2, test), ROLES)

    def test_one_role_against_itself(self):
        roles = {"c": ("core", "cus")}
        self.refused(InvalidQuery, TABLES, (("c", "code", "c", "town"),), roles)
        self.refused(InvalidQuery, TABLES, (("c", "code", "c", "code"),), roles)

    def test_not_between_side_roles(self):
        tables = {"s": ("a", "b"), "t": ("a", "b"), "u": ("a", "b")}
        roles = {"c": ("core", "s"), "d": ("none", "t"), "e": ("some", "u")}
        ties = (("c", "a", "d", "a"), ("c", "b", "e", "a"))
        self.accepted(tables, ties, roles)
        self.refused(InvalidQuery, tables, ties + (("d", "b", "e", "b"),), roles)

    def test_each_side_role_has_a_test(self):
        self.refused(InvalidQuery, TABLES, TESTS[1:], ROLES)
        self.refused(InvalidQuery, TABLES, (), {"b": ("optional", "block"), "c": ("core", "cus")})
        roles = dict(ROLES)
        roles["d"] = ("some", "block")
        self.refused(InvalidQuery, TABLES, TESTS, roles)

    def test_columns_of_side_tables_stand_in_one_place(self):
        tables = {"s": ("a", "b"), "t": ("a", "b")}
        for sort in ("some", "none", "optional"):
            roles = {"c": ("core", "s"), "d": ("core", "s"), "e": (sort, "t")}
            self.accepted(tables, (("c", "a", "e", "a"), ("d", "a", "e", "b")), roles)
            self.accepted(tables, (("c", "a", "d", "a"), ("c", "a", "d", "b"), ("c", "a", "e", "a"),
                                   ("c", "a", "e", "b")), roles)
            self.refused(InvalidQuery, tables, (("c", "a", "e", "a"), ("d", "a", "e", "a")), roles)
            self.refused(InvalidQuery, tables, (("c", "a", "e", "a"), ("c", "b", "e", "a")), roles)

    def test_tables_of_side_and_core_roles(self):
        tables = {"s": ("a", "b"), "t": ("a", "b")}
        for sort in ("some", "none", "optional"):
            roles = {"c": ("core", "t"), "d": ("core", "s"), "e": (sort, "t")}
            self.accepted(tables, (("c", "a", "e", "b"),), roles)
            self.accepted(tables, (("c", "a", "d", "a"), ("d", "a", "e", "b")), roles)
            self.refused(InvalidQuery, tables, (("c", "a", "e", "a"),), roles)
            self.refused(InvalidQuery, tables, (("c", "a", "d", "a"), ("d", "a", "e", "a")), roles)
            self.refused(InvalidQuery, tables, (("c", "a", "d", "a"), ("c", "a", "d", "b"), ("d", "a", "e", "b")),
                         roles)

    def test_two_side_roles_of_one_table(self):
        tables = {"s": ("a", "b"), "t": ("a", "b")}
        roles = {"c": ("core", "s"), "d": ("some", "t"), "e": ("none", "t")}
        self.accepted(tables, (("c", "a", "d", "a"), ("c", "a", "e", "b")), roles)
        self.refused(InvalidQuery, tables, (("c", "a", "d", "a"), ("c", "b", "e", "a")), roles)

    def test_values_of_all_kinds(self):
        for value in those_not(lambda value: False):
            with self.subTest(value=value):
                if value != ():
                    self.refused(InvalidQuery, TABLES, value, {"c": ("core", "cus")})
                self.refused(InvalidQuery, TABLES, value, None)
                self.refused(InvalidQuery, TABLES, TESTS + (value,), ROLES)
                self.refused(InvalidQuery, TABLES, (value,), {"c": ("core", "cus"), "o": ("core", "ord")})
                for at in range(4):
                    test = ("c", "code", "o", "code")
                    if value != test[at] and (at, value) != (1, "town"):
                        test = test[:at] + (value,) + test[at + 1:]
                        self.refused(InvalidQuery, TABLES, (test,), {"c": ("core", "cus"), "o": ("core", "ord")})


class Read(unittest.TestCase):
    def setUp(self):
        self.query = shop_query()

    def unknown(self, name, call):
        with self.assertRaises(UnknownName) as caught:
            call()
        self.assertIs(caught.exception.name, name)

    def test_properties(self):
        query = self.query
        self.assertEqual((query.tables, query.roles, query.tests), (TABLES, ROLES, TESTS))
        self.assertEqual((query.core, query.sides, query.optional), (("c", "i", "o"), ("b",), None))
        query = Query.of(TABLES, TESTS[:1], {"b": ("optional", "block"), "c": ("core", "cus")})
        self.assertEqual((query.core, query.sides, query.optional), (("c",), ("b",), "b"))
        for name in ("tables", "roles", "tests", "core", "sides", "optional"):
            self.assertIsInstance(vars(Query)[name], property)

    def test_dicts_are_in_ascending_order(self):
        backward = Query({name: TABLES[name] for name in reversed(TABLES)}, TESTS,
                         **{role: ROLES[role] for role in reversed(ROLES)})
        self.assertEqual((list(backward.tables), list(backward.roles)), (sorted(TABLES), sorted(ROLES)))
        self.assertEqual((list(backward.sample(1)), backward.core), (sorted(ROLES), ("c", "i", "o")))
        self.assertTrue(backward == self.query)
        two = Query({"s": ("a", "b"), "t": ("a", "b")}, (("c", "a", "d", "a"), ("c", "b", "e", "b")),
                    e=("none", "t"), c=("core", "s"), d=("some", "t"))
        self.assertEqual((two.sides, two.core), (("d", "e"), ("c",)))

    def test_what_is_passed_can_be_changed(self):
        tables, roles = dict(TABLES), dict(ROLES)
        made = (Query(tables, TESTS, **roles), Query.of(tables, TESTS, roles))
        tables["block"] = ("a",)
        tables["x"] = ("a",)
        del roles["b"]
        roles["c"] = ("core", "ord")
        for query in made:
            self.assertTrue(query == self.query)
            self.assertEqual((query.tables, query.roles), (TABLES, ROLES))

    def test_what_is_returned_can_be_changed(self):
        self.query.tables["block"] = ("a",)
        self.query.tables.clear()
        self.query.roles.clear()
        self.query.sample(1).clear()
        self.assertEqual((self.query.tables, self.query.roles), (TABLES, ROLES))
        self.assertTrue(self.query == shop_query())

    def test_roles(self):
        query = self.query
        self.assertEqual([query[role] for role in "bcio"], [ROLES[role] for role in "bcio"])
        self.assertEqual([query.sort_of(role) for role in "bcio"], ["none", "core", "core", "core"])
        self.assertEqual([query.table_of(role) for role in "bcio"], ["block", "cus", "item", "ord"])
        self.assertEqual([query.columns_of(role) for role in "bcio"],
                         [("town",), ("code", "town"), ("code",), ("code", "item")])

    def test_unknown_roles(self):
        query = self.query
        for value in those_not(lambda value: named(value) and value in ROLES):
            for call in (query.sort_of, query.table_of, query.columns_of, query.ties, query.without):
                self.unknown(value, lambda: call(value))
            self.unknown(value, lambda: query[value])
            for other in ("c", "x", None):
                self.unknown(value, lambda: query.pairs(value, other))
            self.unknown(value, lambda: query.pairs("c", value))

    def test_played(self):
        query = Query({"s": ("a",), "t": ("a",), "u": ("a",)}, (("b", "a", "c", "a"),), c=("core", "s"),
                      a=("core", "s"), b=("none", "t"), d=("core", "s"))
        self.assertEqual([query.played(table) for table in "stu"], [("a", "c", "d"), ("b",), ()])
        for value in those_not(lambda value: named(value) and value in TABLES):
            self.unknown(value, lambda: self.query.played(value))
        self.unknown("c", lambda: self.query.played("c"))

    def test_ties(self):
        self.assertEqual(self.query.ties("b"), ("c",))
        for role in ("c", "i", "o"):
            with self.assertRaises(InvalidOperation):
                self.query.ties(role)
        query = self.two_sides()
        self.assertEqual((query.ties("f"), query.ties("g")), (("d", "h"), ("e",)))

    def two_sides(self):
        return Query({"s": ("a", "b"), "t": ("a", "b", "c"), "u": ("a", "b")},
                     (("d", "a", "e", "b"), ("d", "a", "f", "a"), ("e", "b", "g", "b"), ("f", "b", "h", "a"),
                      ("f", "c", "h", "b")),
                     d=("core", "s"), e=("core", "s"), h=("core", "s"), f=("some", "t"), g=("none", "u"))

    def test_pairs(self):
        query = self.two_sides()
        self.assertEqual(query.pairs("f", "h"), (("b", "a"), ("c", "b")))
        self.assertEqual(query.pairs("h", "f"), (("a", "b"), ("b", "c")))
        self.assertEqual((query.pairs("d", "e"), query.pairs("e", "d")), ((("a", "b"),), (("b", "a"),)))
        self.assertEqual((query.pairs("f", "g"), query.pairs("d", "h"), query.pairs("d", "d")), ((), (), ()))
        crossed = Query({"s": ("a", "b")}, (("c", "a", "d", "b"), ("c", "b", "d", "a")), c=("core", "s"),
                        d=("core", "s"))
        self.assertEqual(crossed.pairs("c", "d"), (("a", "b"), ("b", "a")))
        self.assertEqual(crossed.pairs("d", "c"), (("a", "b"), ("b", "a")))
        self.assertEqual(Query({"s": ("a", "b")}, (("c", "a", "d", "b"), ("c", "b", "d", "b")), c=("core", "s"),
                               d=("core", "s")).pairs("d", "c"), (("b", "a"), ("b", "b")))

    def test_text_length_and_membership(self):
        self.assertEqual(str(self.query), "query of 3 core roles, 1 side roles, 3 tests")
        self.assertEqual(str(Query({"t": ("a",)}, c=("core", "t"))), "query of 1 core roles, 0 side roles, 0 tests")
        self.assertEqual(str(self.two_sides()), "query of 3 core roles, 2 side roles, 5 tests")
        self.assertEqual((len(self.query), len(self.two_sides())), (4, 5))
        for value in everything():
            self.assertIs(value in self.query, named(value) and value in ROLES, value)

    def test_not_iterable(self):
        for call in (iter, list, tuple, sorted, dict, set, lambda query: [*query], lambda query: {**query}):
            with self.assertRaises(TypeError):
                call(self.query)
        with self.assertRaises(TypeError):
            for _ in self.query:
                pass

    def test_equality(self):
        self.assertTrue(self.query == shop_query())
        self.assertFalse(self.query != shop_query())
        tables = dict(TABLES)
        tables["other"] = ("a",)
        sorts = dict(ROLES)
        sorts["b"] = ("some", "block")
        for other in (Query.of(tables, TESTS, ROLES), Query.of(TABLES, TESTS, sorts), Query.of(TABLES, TESTS[:2], ROLES),
                      self.query.without("b"), self.two_sides()):
            self.assertIs(self.query == other, False)
            self.assertIs(self.query != other, True)
        for value in those_not(lambda value: isinstance(value, Query)) + [TABLES, ROLES]:
            self.assertIs(self.query == value, False)
            self.assertIs(self.query != value, True)

    def test_is_sort(self):
        for value in everything():
            self.assertIs(Query.is_sort(value), isinstance(value, str) and value in SORTS, value)
        self.assertEqual([Query.is_sort(sort) for sort in SORTS], [True] * 4)
        self.assertIs(self.query.is_sort("core"), True)
        self.assertIsInstance(vars(Query)["is_sort"], staticmethod)

    def test_example(self):
        query = self.query
        self.assertEqual([query.core, query.sides, query.optional, query.ties("b"), query.pairs("o", "i"), query["b"]],
                         [("c", "i", "o"), ("b",), None, ("c",), (("item", "code"),), ("none", "block")])
        self.assertEqual([query.accepts({"c": (5, 9), "o": (5, 7)}), query.accepts({"o": (5, 7), "i": (8,)}),
                          query.without("b").is_within(query)], [True, False, True])


class Accepts(unittest.TestCase):
    def test_tests_hold_between_given_rows(self):
        query = shop_query()
        for rows in ({}, {"c": (1, 2)}, {"b": (1,), "i": (2,)}, {"b": (9,), "c": (5, 9)}, {"c": (5, 9), "i": (5,)},
                     {"o": (5, 7), "i": (7,), "c": (5, 9), "b": (9,)}, {"c": (LONGEST, 0), "o": (LONGEST, -LONGEST)}):
            self.assertIs(query.accepts(rows), True, rows)
        for rows in ({"b": (5,), "c": (5, 9)}, {"c": (5, 9), "o": (9, 5)}, {"o": (5, 7), "i": (5,)},
                     {"o": (5, 7), "i": (7,), "c": (5, 9), "b": (5,)}, {"o": (5, 7), "i": (7,), "c": (6, 9), "b": (9,)},
                     {"o": (5, 7), "i": (8,), "c": (5, 9), "b": (9,)}):
            self.assertIs(query.accepts(rows), False, rows)

    def test_rows_are_not_changed(self):
        rows = {"o": (5, 7), "i": (7,)}
        shop_query().accepts(rows)
        self.assertEqual(rows, {"o": (5, 7), "i": (7,)})

    def test_invalid_rows(self):
        query = shop_query()
        right = lambda value: isinstance(value, dict) and (value == {} or value == {"c": (1, 2)})
        for value in those_not(right):
            with self.assertRaises(InvalidRow):
                query.accepts(value)
        for role, many in (("b", 1), ("c", 2), ("i", 1), ("o", 2)):
            valid = lambda value: isinstance(value, tuple) and len(value) == many and all(whole(part) for part in value)
            for value in those_not(valid):
                with self.assertRaises(InvalidRow):
                    query.accepts({role: value})
                with self.assertRaises(InvalidRow):
                    query.accepts({"c": (1, 2), "o": (3, 4), role: value})
        for role in ("x", "", 1, None, ("c",), "cus", True):
            with self.assertRaises(InvalidRow):
                query.accepts({"c": (1, 2), role: (1, 2)})
        with self.assertRaises(InvalidRow):
            query.accepts({"c": (1, 2), "o": (3, 4), "i": (5, 6)})


class Sample(unittest.TestCase):
    def all_queries(self):
        """Queries of many kinds, with tests in chains, circles and two places of one role."""
        core = {"c": ("core", "t"), "d": ("core", "t"), "e": ("core", "t")}
        tables = {"s": ("a", "b", "c"), "t": ("a", "b", "c"), "u": ("a", "b")}
        chains = [(), (("c", "a", "d", "a"),), (("c", "a", "d", "b"), ("c", "b", "d", "b")),
                  (("c", "a", "d", "b"), ("c", "b", "e", "c"), ("d", "b", "e", "c")),
                  (("c", "a", "e", "a"), ("c", "b", "d", "b"), ("d", "a", "e", "c"), ("d", "b", "e", "a")),
                  tuple(("c", one, "d", other) for one in "abc" for other in "abc")]
        sides = [{}, {"f": ("some", "s")}, {"a": ("optional", "s")}, {"a": ("none", "s"), "g": ("some", "u")}]
        ties = {"f": (("d", "b", "f", "a"), ("e", "c", "f", "c")), "a": (("a", "b", "c", "a"), ("a", "c", "c", "b")),
                "g": (("c", "a", "g", "b"),)}
        for tests in chains:
            for side in sides:
                roles = dict(core)
                roles.update(side)
                yield Query.of(tables, tuple(sorted(tests + sum((ties[role] for role in side), ()))), roles)

    def places(self, query, many):
        """For each place (role, row, column) the set of all places that tests make equal to it."""
        groups = {}
        for role in query.roles:
            for at in range(1 if role in query.core else many):
                for column in query.columns_of(role):
                    groups[role, at, column] = {(role, at, column)}
        for role, column, other, opposite in query.tests:
            for one, two in itertools.product(list(groups), list(groups)):
                if (one[0], one[2], two[0], two[2]) == (role, column, other, opposite):
                    union = groups[one] | groups[two]
                    for place in union:
                        groups[place] = union
        return groups

    def test_samples(self):
        for query in itertools.chain(self.all_queries(), [shop_query(), Query({"t": ("a", "b")}, c=("core", "t"))]):
            for many in (0, 1, 2, 3, 9):
                rows = query.sample(many)
                self.check_rows(query, many, rows)
                groups = self.places(query, many)
                for (one, group), two in itertools.product(groups.items(), groups):
                    self.assertEqual(self.entry(query, rows, one) == self.entry(query, rows, two), two in group)

    def entry(self, query, rows, place):
        role, at, column = place
        return rows[role][at][query.columns_of(role).index(column)]

    def check_rows(self, query, many, rows):
        self.assertEqual(list(rows), sorted(query.roles))
        for role in query.roles:
            self.assertIsInstance(rows[role], tuple)
            self.assertEqual(len(rows[role]), 1 if role in query.core else many)
            for row in rows[role]:
                self.assertTrue(query.accepts({role: row}))
        if all(rows[role] for role in rows):
            for chosen in itertools.islice(itertools.product(*rows.values()), 100):
                self.assertTrue(query.accepts(dict(zip(rows, chosen))))

    def test_equal_calls(self):
        self.assertEqual(shop_query().sample(3), shop_query().sample(3))

    def test_invalid_numbers(self):
        for value in those_not(lambda value: whole(value) and 0 <= value <= 9) + [10, -1, 61]:
            with self.assertRaises(InvalidNumber) as caught:
                shop_query().sample(value)
            self.assertIs(caught.exception.value, value)


class Within(unittest.TestCase):
    def test_without(self):
        query = shop_query()
        rest = query.without("b")
        self.assertEqual((rest.roles, rest.tests, rest.tables),
                         ({role: ROLES[role] for role in "cio"}, TESTS[1:], TABLES))
        rest = query.without("i")
        self.assertEqual((rest.roles, rest.tests, rest.tables), ({role: ROLES[role] for role in "bco"}, TESTS[:2], TABLES))
        rest = query.without("o")
        self.assertEqual((rest.core, rest.tests), (("c", "i"), TESTS[:1]))
        self.assertTrue(query == shop_query())

    def test_without_a_tie(self):
        with self.assertRaises(InvalidOperation):
            shop_query().without("c")
        tables = {"s": ("a",), "t": ("a", "b")}
        query = Query(tables, (("c", "a", "e", "a"), ("d", "a", "e", "b")), c=("core", "s"), d=("core", "s"),
                      e=("optional", "t"))
        self.assertEqual(query.without("c").ties("e"), ("d",))
        with self.assertRaises(InvalidOperation):
            query.without("c").without("d")

    def test_without_the_only_core_role(self):
        with self.assertRaises(InvalidOperation):
            Query({"t": ("a",)}, c=("core", "t")).without("c")

    def test_is_within(self):
        query = shop_query()
        sorts, tables = dict(ROLES), dict(TABLES)
        sorts["b"] = ("some", "block")
        tables["other"] = ("a",)
        fewer = Query.of(TABLES, TESTS[:2], ROLES)
        self.assertIs(query.is_within(query), True)
        for part in (query.without("b"), query.without("i"), query.without("b").without("o"), fewer):
            self.assertIs(part.is_within(query), True)
            self.assertIs(query.is_within(part), False)
        self.assertIs(query.without("b").is_within(query.without("i")), False)
        for other in (Query.of(TABLES, TESTS, sorts), Query.of(tables, TESTS, ROLES)):
            self.assertIs(query.is_within(other), False)
            self.assertIs(other.is_within(query), False)
        smaller = Query({"cus": ("code", "town")}, c=("core", "cus"))
        self.assertIs(smaller.is_within(query), False)

    def test_is_within_invalid(self):
        for value in those_not(lambda value: isinstance(value, Query)) + [TABLES]:
            with self.assertRaises(InvalidOperation):
                shop_query().is_within(value)


if __name__ == "__main__":
    unittest.main()
