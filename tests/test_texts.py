import unittest

from shelfroutes.errors import (InvalidPlan, InvalidQuery, InvalidScheme, InvalidStore, InvalidTable, InvalidTransition,
                                ParseError, UnknownName)
from shelfroutes.plan.plans import Plan
from shelfroutes.plan.schemes import Scheme
from shelfroutes.query.queries import Query
from shelfroutes.text.texts import read_plan, read_query, read_scheme, write_plan, write_query, write_scheme
from tests.draws import draw_plan, draw_query, draw_scheme, draw_stores, rng_of
from tests.shop import CHAIN_TEXT, SHOP_TEXT, flat_plan, shop, shop_query, steps
from tests.values import everything, those_not

QUERY_TEXT = "\n".join(SHOP_TEXT.split("\n")[:11])
# A scheme with a line of each kind.
FULL_TEXT = """table k x y
table m x
role a core k
role b core k
role c core m
role e some m
test a.x = b.y
test b.x = e.x
lasting k
lasting m
lazy la a b by b.y from sa sb
store ma a b
counter ne e
store sa a
store sb b
store sc c
store se e
plan one
add a: update sa, join sb, update la, join sc, some ne, emit
add a: join sb, update ma
add b: recount ne se, some ne
plan three
plan two
add a: update sa
switch one three: clear la, append ma sb sa, recount ne sb se
switch one two:
switch two one: fill ma sa sb, reset ne
first one"""


def error_line(read, text):
    """The line that a ParseError keeps; other errors go on."""
    try:
        read(text)
    except ParseError as error:
        return error.line
    raise AssertionError("read: " + repr(text))


class Interface(unittest.TestCase):
    def test_where_all_is_defined(self):
        for made in (write_query, write_plan, write_scheme, read_query, read_plan, read_scheme):
            self.assertEqual(made.__module__, "shelfroutes.text.texts")

    def test_example(self):
        self.assertEqual([write_scheme(read_scheme(CHAIN_TEXT)) == CHAIN_TEXT, write_plan(read_plan("")),
                          len(write_query(shop_query()))], [True, "", 202])
        self.assertEqual(read_scheme(SHOP_TEXT), shop())
        self.assertEqual(write_scheme(shop()), SHOP_TEXT)

    def test_wrong_values(self):
        for write, kind, error in ((write_query, Query, InvalidQuery), (write_plan, Plan, InvalidPlan),
                                   (write_scheme, Scheme, InvalidScheme)):
            for value in those_not(lambda value: isinstance(value, kind)):
                with self.assertRaises(error):
                    write(value)
        for read in (read_query, read_plan, read_scheme):
            for value in everything():
                if not isinstance(value, str):
                    self.assertIsNone(error_line(read, value))
                elif value != "" or read is not read_plan:
                    self.assertEqual(error_line(read, value), 0, value)


class Written(unittest.TestCase):
    def test_queries(self):
        self.assertEqual(write_query(shop_query()), QUERY_TEXT)
        self.assertEqual(read_query(QUERY_TEXT), shop_query())
        roles = {"self": ("core", "t"), "tests": ("core", "t")}
        query = Query.of({"t": ("a",)}, (("self", "a", "tests", "a"),), roles)
        self.assertEqual(write_query(query), "table t a\nrole self core t\nrole tests core t\ntest self.a = tests.a")
        self.assertEqual(read_query(write_query(query)), query)

    def test_plans(self):
        self.assertEqual(write_plan(Plan()), "")
        plan = Plan({("remove", "b"): (steps("join sa"), steps("update so, emit"), steps("join sa")),
                     ("add", "c"): (steps("recount nb sb, none nb"),)})
        text = "add c: recount nb sb, none nb\nremove b: join sa\nremove b: update so, emit\nremove b: join sa"
        self.assertEqual((write_plan(plan), read_plan(text)), (text, plan))
        self.assertEqual(read_plan(write_plan(flat_plan())), flat_plan())

    def test_each_kind_of_line(self):
        scheme = read_scheme(FULL_TEXT)
        self.assertEqual(write_scheme(scheme), FULL_TEXT)
        self.assertEqual(scheme.lasting, ("k", "m"))
        self.assertEqual(scheme.stores["la"], ("lazy", ("a", "b"), "b", "y", "sa", "sb"))
        self.assertEqual((scheme["three"], scheme.steps_of("one", "two")), (Plan(), ()))
        self.assertEqual(scheme.steps_of("one", "three"),
                         (("clear", "la"), ("append", "ma", "sb", "sa"), ("recount", "ne", "sb", "se")))
        self.assertEqual(scheme.steps_of("two", "one"), (("fill", "ma", "sa", "sb"), ("reset", "ne")))
        flag = FULL_TEXT.replace("counter ne e", "flag ne e")
        self.assertEqual(read_scheme(flag).stores["ne"], ("flag", "e"))
        self.assertEqual(write_scheme(read_scheme(flag)), flag)

    def test_drawn_values(self):
        for seed in range(150):
            rng = rng_of("texts", seed)
            query = draw_query(rng, most_core=4)
            self.assertEqual(read_query(write_query(query)), query)
            self.assertEqual(write_query(read_query(write_query(query))), write_query(query))
            plan = draw_plan(rng, query, draw_stores(rng, query), ())
            self.assertEqual(read_plan(write_plan(plan)), plan)
            self.assertEqual(write_plan(read_plan(write_plan(plan))), write_plan(plan))
            scheme = draw_scheme(rng)
            self.assertEqual(read_scheme(write_scheme(scheme)), scheme)
            self.assertEqual(write_scheme(read_scheme(write_scheme(scheme))), write_scheme(scheme))


class Spoilt(unittest.TestCase):
    """Texts with one thing spoilt."""

    def lines(self, text=FULL_TEXT):
        return text.split("\n")

    def refused(self, lines, at, read=read_scheme):
        self.assertEqual(error_line(read, "\n".join(lines)), at, "\n".join(lines))

    def test_characters(self):
        """No character can be added or left out where this does not give another name."""
        for at, line in enumerate(self.lines()):
            for place in range(len(line) + 1):
                for more in (" ", ".", ":", ",", "=", "A", "1", "\t", "-"):
                    lines = self.lines()
                    lines[at] = line[:place] + more + line[place:]
                    self.refused(lines, at)
                if place < len(line) and not line[place].isalpha():
                    lines = self.lines()
                    lines[at] = line[:place] + line[place + 1:]
                    self.refused_or_other(lines, at)

    def refused_or_other(self, lines, at):
        """Without a blank two names become one: this is perhaps another line, but never the same value."""
        try:
            read_scheme("\n".join(lines))
        except ParseError as error:
            self.assertIn(error.line, (at, at + 1))
        except (InvalidTable, InvalidQuery, InvalidStore, InvalidPlan, InvalidTransition):
            pass
        else:
            self.assertNotEqual(read_scheme("\n".join(lines)), read_scheme(FULL_TEXT))

    def test_lines_doubled_left_out_and_swapped(self):
        whole = self.lines()
        for at, line in enumerate(whole):
            lines = whole[:at + 1] + whole[at:]
            if not line.startswith(("add", "remove")):
                self.refused(lines, at + 1)
            # A pipeline that is swapped with a plan is one of the other plan.
            if at + 1 < len(whole) and not any(told.startswith("add") for told in whole[at:at + 2]):
                lines = whole[:at] + [whole[at + 1], whole[at]] + whole[at + 2:]
                self.assertIn(error_line(read_scheme, "\n".join(lines)), (at, at + 1))
            for other in ("", " ", "x", "table", "plan", "first", "add", "switch", "test", "lazy", "store x", "flag x"):
                self.refused(whole[:at] + [other] + whole[at:], at)
        for end in ("\n", "\n\n"):
            self.refused((FULL_TEXT + end).split("\n"), len(whole))
        self.refused(("\n" + FULL_TEXT).split("\n"), 0)

    def test_lines_of_other_kinds(self):
        whole = self.lines(QUERY_TEXT)
        for line in ("lasting item", "store sc c", "counter nb b", "plan flat", "add c: emit", "first flat",
                     "switch flat wide:"):
            self.refused(whole + [line], len(whole), read_query)
        for line in ("table a x", "role c core cus", "test a.x = b.x", "plan flat", "first flat", "switch a b:", ""):
            self.refused(["add c: emit", line], 1, read_plan)
            self.refused([line, "add c: emit"], 0, read_plan)
        self.refused(["add c: emit", ""], 1, read_plan)
        self.refused(["", ""], 0, read_plan)

    def test_order(self):
        whole = self.lines()
        for at, line in ((0, "table n x"), (1, "table k x"), (2, "role b core k"), (5, "role c some m"),
                         (7, "test a.x = b.x"), (8, "lasting m"), (9, "lasting k"), (10, "lazy z a b by b.y from sa sb"),
                         (12, "counter la e"), (15, "store sb c"), (21, "plan one"), (22, "plan three"),
                         (26, "switch one thre:"), (25, "switch two one:")):
            lines = list(whole)
            lines[at] = line
            told = error_line(read_scheme, "\n".join(lines))
            self.assertIn(told, (at, at + 1), line)
        self.refused(["remove c: emit", "add c: emit"], 1, read_plan)
        self.refused(["add d: emit", "add c: emit"], 1, read_plan)
        self.assertEqual(read_plan("add c: emit\nadd c: emit")["add", "c"], ((("emit",),),) * 2)

    def test_kinds_follow_one_another(self):
        whole = self.lines()
        kinds = [[0], [2], [6], [8], [10], [17, 18], [24], [27]]
        for one in range(len(kinds)):
            for other in range(one):
                lines = [whole[at] for at in kinds[one] + kinds[other]]
                self.refused(lines, len(kinds[one]))
        self.refused(["add a: emit"], 0)
        self.refused(whole[:17] + whole[18:], 17)
        self.refused(whole + ["first two"], len(whole))
        self.refused(whole + ["first one"], len(whole))

    def test_lines_that_are_none(self):
        for line in ("table k", "table k y x", "table k x x", "table K x", "table k x1", "table", "table abcdefghi x",
                     "role a core", "role a side k", "role a core k k", "role a Core k", "role", "role a some abcdefghi",
                     "test a.x = a.y", "test b.x = a.x", "test a.x b.x", "test a.x == b.x", "test a = b", "test a.x = b",
                     "test a.x.y = b.x", "test a.x = b.", "test .x = b.x", "lasting", "lasting k m", "store s",
                     "store s b a", "store s a a", "store s 1", "counter n", "counter n a b", "flag n", "flag n a b",
                     "lazy l a by a.x from s t", "lazy l by a.x from s t", "lazy l b a by a.x from s t",
                     "lazy l a b by a from s t", "lazy l a b by a.x from s", "lazy l a b by a.x from s t u",
                     "lazy l a b by a.x of s t", "lazy l a b at a.x from s t", "lazy l a b", "lazy L a b by a.x from s t",
                     "plan", "plan a b", "plan A", "add a", "add a:", "add a: ", "add a : emit", "add a:emit",
                     "add a: emit,", "add a: emit, ", "add a: update", "add a: update s t", "add a: emit s",
                     "add a: recount n", "add a: fill s t u", "add a: clear s", "add a: emit,join s", "add a b: emit",
                     "put a: emit", "Add a: emit", "add a: join s join t", "switch a", "switch a b", "switch a b: ",
                     "switch a: clear s", "switch a b c:", "switch a b: clear", "switch a b: update s", "switch a b: emit",
                     "switch a b: fill s t", "switch a b: recount n s", "switch a b: clear s,", "switch a b:clear s",
                     "switch a b: clear s:", "first", "first a b", "first 1", " table k x", "table k x ", "table  k x",
                     "x", "comment a"):
            self.refused([line], 0)

    def test_without_first(self):
        whole = self.lines()
        for many in range(1, len(whole)):
            self.refused(whole[:many], many)
        self.assertEqual(error_line(read_scheme, "table k x"), 1)

    def test_the_first_line_that_is_wrong(self):
        whole = self.lines()
        lines = list(whole)
        lines[5], lines[20], lines[-1] = "role", "add", "first"
        self.refused(lines, 5)


class Constructors(unittest.TestCase):
    """What has the form of lines, but is no value."""

    def raises(self, error, read, text):
        with self.assertRaises(error):
            read(text)

    def test_queries(self):
        for text in ("role c core k", "test a.x = b.x", "table a a b c d e f g\nrole c core a",
                     "\n".join("table " + name + " x" for name in "abcdefg") + "\nrole c core a"):
            self.raises(InvalidTable, read_query, text)
        for text in ("table k x", "table k x\nrole c core m", "table k x\nrole c some k",
                     "table k x\nrole a core k\nrole b core k\ntest a.x = b.y",
                     "table k x\n" + "\n".join("role " + name + " core k" for name in "abcde")):
            self.raises(InvalidQuery, read_query, text)
        tests = ["test a." + one + " = b." + other for one in "pqrst" for other in "pqrst"]
        head = "table k p q r s t\nrole a core k\nrole b core k\n"
        self.assertEqual(len(read_query(head + "\n".join(tests[:20])).tests), 20)
        self.raises(InvalidQuery, read_query, head + "\n".join(tests[:21]))

    def test_plans(self):
        self.assertEqual(len(read_plan("\n".join(["add c: emit"] * 4))), 4)
        self.raises(InvalidPlan, read_plan, "\n".join(["add c: emit"] * 5))
        self.raises(InvalidPlan, read_plan, "\n".join("add " + role + ": emit" for role in "abcdefg"))
        twelve = "add c: " + ", ".join(["join s"] * 12)
        self.assertEqual(len(read_plan(twelve)["add", "c"][0]), 12)
        for text in (twelve + ", emit", "add c: emit, join s", "add c: none n, update s"):
            self.raises(InvalidPlan, read_plan, text)

    def test_schemes(self):
        for old, new, error in (
                ("table m x\n", "", InvalidQuery), ("role a core k\n", "", InvalidQuery),
                ("lasting m", "lasting o", InvalidTable), ("store ma a b", "store ma a b c d e f", InvalidStore),
                ("counter ne e\n", "", InvalidStore), ("by b.y", "by c.x", InvalidStore),
                ("from sa sb", "from sa sa", InvalidStore), ("counter ne e", "counter ne a", InvalidStore),
                ("join sb, update la", "update la", InvalidPlan), ("add b:", "add z:", InvalidPlan),
                ("some ne, emit", "emit, some ne", InvalidPlan), ("update sa\n", "update none\n", InvalidPlan),
                ("switch two one", "switch two two", InvalidTransition),
                ("switch two one", "switch two xxx", InvalidTransition),
                ("fill ma sa sb", "fill ma sa sc", InvalidTransition),
                ("sa sb, reset ne", "sa sb, clear ma", InvalidTransition), ("first one", "first xxx", UnknownName)):
            self.assertEqual(FULL_TEXT.count(old), 1, old)
            self.raises(error, read_scheme, FULL_TEXT.replace(old, new))
        head = FULL_TEXT[:FULL_TEXT.index("plan one")]
        self.raises(InvalidPlan, read_scheme, head + "first one")
        self.raises(InvalidPlan, read_scheme, head + "switch one two:\nfirst one")
        self.raises(InvalidPlan, read_scheme, head + "\n".join("plan " + name for name in "abcdefg") + "\nfirst a")
        self.raises(InvalidTransition, read_scheme, head + "plan one\nswitch one one:\nfirst one")

    def test_order_of_errors(self):
        """Lines first, then the query, the plans in their order, and the scheme."""
        wrong = FULL_TEXT.replace("table m x\n", "").replace("first one", "first xxx")
        self.raises(InvalidQuery, read_scheme, wrong)
        self.assertEqual(error_line(read_scheme, wrong + "\n"), len(wrong.split("\n")))
        plans = FULL_TEXT.replace("some ne, emit", "emit, some ne").replace("counter ne e\n", "")
        self.raises(InvalidPlan, read_scheme, plans)
        self.raises(InvalidQuery, read_scheme, plans.replace("table m x\n", ""))
        self.raises(InvalidStore, read_scheme, FULL_TEXT.replace("counter ne e\n", "").replace("first one", "first xxx"))


if __name__ == "__main__":
    unittest.main()
