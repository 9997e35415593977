"""Stage 15: cheapest transitions."""

import unittest
from collections import Counter

from shelfroutes.errors import InvalidOperation, InvalidScheme, TooMany
from shelfroutes.make.prices import (cheapest, is_price_paper, possible_repairs, price_of, price_paper, repairs,
                                     sizes_in)
from shelfroutes.make.trees import all_trees, scheme_by
from shelfroutes.plan.plans import Plan
from shelfroutes.plan.schemes import Scheme
from shelfroutes.query.queries import Query
from shelfroutes.query.worlds import World
from shelfroutes.run.engine import Engine
from shelfroutes.text.texts import read_scheme
from tests import plain
from tests.draws import draw_query, draw_row, draw_rows, draw_stores, rng_of, subset
from tests.more_shops import lazy_one
from tests.shop import CHAIN_TEXT, shop, shop_query, steps
from tests.values import LONGEST, TOO_LONG, everything, those_not, whole

DAY = World(shop_query(), rows={1: ("cus", (1, 5)), 2: ("ord", (1, 7)), 3: ("item", (7,)), 4: ("ord", (1, 7))})
SIZES = {("c", "o"): 5}
COURSE = (("fill", "sco", "sc", "so"),)
TABLE = {("sc", "so"): 5, ("sc", "sco", "so"): 0}
KEPT = {}


def chain():
    return read_scheme(CHAIN_TEXT)


def core_stores(scheme):
    return sorted(name for name, entry in scheme.stores.items()
                  if entry[0] in ("plain", "lazy") and entry[1][0] in scheme.query.core)


def told_repairs(scheme):
    """Point 15.1, with the sources; kept beside the scheme, as all orders of repairs are tried."""
    if id(scheme) not in KEPT:
        KEPT[id(scheme)] = (scheme, told_repairs_anew(scheme))
    return KEPT[id(scheme)][1]


def told_repairs_anew(scheme):
    found = {}
    for name in core_stores(scheme):
        entry = scheme.stores[name]
        if entry[0] == "lazy":
            found["clear", name] = entry[4:]
        elif len(entry[1]) > 1:
            for one in core_stores(scheme):
                for other in core_stores(scheme):
                    parts = scheme.stores[one][1] + scheme.stores[other][1]
                    if one < other and sorted(parts) == list(entry[1]):
                        found["fill", name, one, other] = (one, other)
    return found


def told_possible(scheme, sound):
    return sorted(repair for repair, sources in told_repairs(scheme).items()
                  if set(sources) <= set(sound) and repair[1] not in sound)


def told_price(scheme, sizes, repair):
    return sizes[scheme.stores[repair[1]][1]] if repair[0] == "fill" else 0


def told_least(scheme, sizes, sound, wanted):
    """The least price, by a search through all orders of repairs; None if there is no course."""
    if set(wanted) <= set(sound):
        return 0
    prices = []
    for repair in told_possible(scheme, sound):
        rest = told_least(scheme, sizes, tuple(sorted(sound + (repair[1],))), wanted)
        if rest is not None:
            prices.append(told_price(scheme, sizes, repair) + rest)
    return min(prices, default=None)


def behind(sound, course):
    return tuple(sorted(sound + tuple(repair[1] for repair in course)))


def told_paper(scheme, sizes, sound, wanted, value):
    """Whether a value of the form of a paper is one (15.2, 15.3)."""
    if value[0] == "bar":
        stores = value[1]
        return (set(sound) <= set(stores) and not set(wanted) <= set(stores) and told_possible(scheme, stores) == [])
    _, course, table = value
    for at, repair in enumerate(course):
        if repair not in told_possible(scheme, behind(sound, course[:at])):
            return False
    if not set(wanted) <= set(behind(sound, course)) or sound not in table:
        return False
    for key in table:
        for repair in told_possible(scheme, key):
            after = behind(key, (repair,))
            if after not in table:
                return False
            if not set(wanted) <= set(key) and table[key] > told_price(scheme, sizes, repair) + table[after]:
                return False
        if set(wanted) <= set(key) and table[key] != 0:
            return False
    return table[sound] == sum(told_price(scheme, sizes, repair) for repair in course)


def draw_repair_scheme(rng):
    """A scheme with many stores of several roles, some of them lazy, and plans that do nothing."""
    query = draw_query(rng, most_core=4, sides=rng.choice(((), (), ("none",))))
    stores = draw_stores(rng, query)
    for role in query.core:
        if ("plain", (role,)) not in stores.values() and len(stores) < 12:
            stores["q" + role] = ("plain", (role,))
    for many in range(4):
        if len(stores) < 9 and len(query.core) > 1:
            stores["w" + "abcd"[many]] = ("plain", subset(rng, query.core, least=2))
    return Scheme(query, stores=stores, plans={"p": Plan()}, first="p")


def draw_task(rng, scheme):
    held = core_stores(scheme)
    sizes = {entry[1]: rng.choice((0, 1, 2, 3, 7, 20, 10 ** 50)) for entry in scheme.stores.values()
             if entry[0] == "plain" and len(entry[1]) > 1}
    sound = tuple(name for name in held if rng.random() < (0.9 if len(scheme.stores[name][1]) == 1 else 0.15))
    wanted = tuple(name for name in held if name not in sound and rng.random() < 0.4) or subset(rng, held)
    return sizes, sound, wanted


class Interface(unittest.TestCase):
    def test_where_all_is_defined(self):
        for made in (repairs, possible_repairs, price_of, sizes_in, cheapest, price_paper, is_price_paper):
            self.assertEqual(made.__module__, "shelfroutes.make.prices")

    def test_example(self):
        self.assertEqual([repairs(shop()), cheapest(shop(), SIZES, ("sc", "so"), ("sco",)), sizes_in(shop(), DAY)],
                         [COURSE, COURSE, {("c", "o"): 2}])
        self.assertIs(is_price_paper(shop(), SIZES, ("sc", "so"), ("sco",), ("course", repairs(shop()), TABLE)), True)
        self.assertIs(is_price_paper(shop(), SIZES, ("so",), ("sco",), ("bar", ("si", "so"))), True)


class Repairs(unittest.TestCase):
    def test_against_a_second_reckoning(self):
        seen = Counter()
        for seed in range(120):
            rng = rng_of("repairs", seed)
            scheme = draw_repair_scheme(rng)
            told = told_repairs(scheme)
            self.assertEqual(repairs(scheme), tuple(sorted(told)))
            sizes, sound, _ = draw_task(rng, scheme)
            for position in ((), sound, subset(rng, core_stores(scheme)), tuple(core_stores(scheme))):
                self.assertEqual(possible_repairs(scheme, position), tuple(told_possible(scheme, position)))
            course = tuple(rng.choice(sorted(told)) for _ in range(rng.randint(0, 6))) if told else ()
            self.assertEqual(price_of(scheme, sizes, course), sum(told_price(scheme, sizes, repair) for repair in course))
            for repair in told:
                seen[repair[0]] += 1
        self.assertGreater(min(seen["fill"], seen["clear"]), 50)

    def test_lazy_stores(self):
        self.assertEqual(repairs(lazy_one()), (("clear", "lcio"), ("fill", "sco", "sc", "so")))
        self.assertEqual(possible_repairs(lazy_one(), ("sc", "so")), (("fill", "sco", "sc", "so"),))
        self.assertEqual(possible_repairs(lazy_one(), ("sco", "si")), (("clear", "lcio"),))
        self.assertEqual(possible_repairs(lazy_one(), ("lcio", "sco", "si")), ())
        self.assertEqual(cheapest(lazy_one(), SIZES, ("sc", "si", "so"), ("lcio",)), COURSE + (("clear", "lcio"),))

    def test_sizes(self):
        for seed in range(60):
            rng = rng_of("sizes", seed)
            scheme = draw_repair_scheme(rng)
            world = World(scheme.query, rows=draw_rows(rng, scheme.query, 8))
            told = {entry[1]: len(plain.all_matches(scheme.query, world.rows, entry[1]))
                    for entry in scheme.stores.values() if entry[0] == "plain" and len(entry[1]) > 1}
            self.assertEqual(list(sizes_in(scheme, world).items()), sorted(told.items()))

    def test_too_many(self):
        query = Query({"k": ("x",), "m": ("x",)}, (), c=("core", "k"), d=("core", "m"))
        stores = {"sc": ("plain", ("c",)), "scd": ("plain", ("c", "d")), "sd": ("plain", ("d",))}
        scheme = Scheme(query, stores=stores, plans={"p": Plan()}, first="p")
        rows = {key: ("k", (1,)) for key in range(1, 51)}
        rows.update({key: ("m", (1,)) for key in range(51, 91)})
        self.assertEqual(sizes_in(scheme, World(query, rows=rows)), {("c", "d"): 2000})
        with self.assertRaises(TooMany) as caught:
            sizes_in(scheme, World(query, rows={**rows, 91: ("k", (2,))}))
        self.assertEqual(caught.exception.limit, 2000)

    def test_errors(self):
        for value in those_not(lambda value: isinstance(value, Scheme)):
            for other in ((), None):
                for call in (possible_repairs, sizes_in):
                    with self.assertRaises(InvalidScheme):
                        call(value, other)
                for call in (price_of, lambda *told: cheapest(*told, ()), lambda *told: price_paper(*told, None),
                             lambda *told: is_price_paper(*told, None, None)):
                    with self.assertRaises(InvalidScheme):
                        call(value, {} if other == () else None, other)
            with self.assertRaises(InvalidScheme):
                repairs(value)
        for value in those_not(lambda value: isinstance(value, World) and value.query == shop_query()) + [
                World(Query({"a": ("b",)}, c=("core", "a")))]:
            with self.assertRaises(InvalidOperation):
                sizes_in(shop(), value)
        query = shop_query()
        other = World(Query.of(query.tables, query.tests[:2], query.roles))
        for scheme in (shop(), chain()):
            for value in those_not(lambda value: isinstance(value, World)) + [other]:
                with self.assertRaises(InvalidOperation):
                    sizes_in(scheme, value)
        self.assertEqual(sizes_in(chain(), World(chain().query)), {})
        for value in those_not(lambda value: value == ()) + [("sb",), ("nb",), ("so", "sc"), ("sc", "sc"), ["sc"], ("zz",)]:
            with self.assertRaises(InvalidOperation):
                possible_repairs(shop(), value)

    def test_errors_of_sizes(self):
        wrong = [{("c", "o"): value} for value in those_not(lambda value: whole(value) and 0 <= value <= 10 ** 50)]
        wrong += everything() + [{}, {("c", "o"): 1, ("c", "i"): 1}, {("o", "c"): 1}, {("c", "o"): 10 ** 50 + 1},
                                 {("c", "o"): True}, {("c", "o"): -1}, {("c", "o"): LONGEST}, {("c", "o"): TOO_LONG},
                                 {"co": 1}, (("c", "o"), 1)]
        for value in wrong:
            for rest in ((), None):
                for call in (lambda: price_of(shop(), value, rest), lambda: cheapest(shop(), value, rest, rest),
                             lambda: price_paper(shop(), value, rest, rest),
                             lambda: is_price_paper(shop(), value, rest, rest, rest)):
                    with self.assertRaises(InvalidOperation):
                        call()
        for size in (0, 10 ** 50):
            self.assertEqual(price_of(shop(), {("c", "o"): size}, COURSE * 3), 3 * size)

    def test_errors_of_other_parameters(self):
        for value in those_not(lambda value: value == ()) + [("fill", "sco", "sc", "so"), list(COURSE),
                                                             (list(COURSE[0]),), (("fill", "sco", "so", "sc"),),
                                                             (("clear", "sco"),), COURSE + (("fill", "sco", "sc", "si"),)]:
            with self.assertRaises(InvalidOperation):
                price_of(shop(), SIZES, value)
        for value in those_not(lambda value: value == ()) + [("sb",), ("so", "sc"), ["sc"], ("nb",)]:
            for args in ((value, ()), (value, None), ((), value)):
                for call in (cheapest, price_paper, lambda *told: is_price_paper(*told, None)):
                    with self.assertRaises(InvalidOperation):
                        call(shop(), SIZES, *args)


class Courses(unittest.TestCase):
    def drawn(self, many, label):
        for seed in range(many):
            rng = rng_of(label, seed)
            scheme = draw_repair_scheme(rng)
            yield (rng, scheme) + draw_task(rng, scheme)

    def test_against_a_plain_search(self):
        seen = Counter()
        for rng, scheme, sizes, sound, wanted in self.drawn(250, "courses"):
            if len(core_stores(scheme)) - len(sound) > 6:
                continue
            told = told_least(scheme, sizes, sound, wanted)
            course = cheapest(scheme, sizes, sound, wanted)
            self.assertEqual(told is None, course is None)
            paper = price_paper(scheme, sizes, sound, wanted)
            self.assertIs(told_paper(scheme, sizes, sound, wanted, paper), True)
            self.assertIs(is_price_paper(scheme, sizes, sound, wanted, paper), True)
            if course is None:
                self.assertEqual(paper[0], "bar")
            else:
                self.assertEqual(price_of(scheme, sizes, course), told)
                self.assertEqual(price_of(scheme, sizes, paper[1]), told)
                self.assertEqual(list(paper[2]), sorted(paper[2]))
                seen["long"] += len(course) > 2
            seen[paper[0]] += 1
            self.check_spoilt(rng, scheme, (sizes, sound, wanted), paper, seen)
        self.assertTrue(min(seen["course"], seen["bar"], seen["long"], seen["judged", True], seen["judged", False]) > 20, seen)

    def check_spoilt(self, rng, scheme, task, paper, seen):
        """Papers with other bars, courses and tables."""
        others = []
        held = core_stores(scheme)
        for _ in range(4):
            others.append(("bar", subset(rng, held)))
            others.append(("bar", tuple(sorted(set(task[1]) | set(subset(rng, held))))))
            if paper[0] == "course":
                _, course, table = paper
                key = rng.choice(sorted(table))
                less = dict(table)
                del less[key]
                repair = rng.choice(repairs(scheme)) if repairs(scheme) else None
                others += [("course", course, {**table, key: max(0, table[key] + rng.choice((-1, 1)))}),
                           ("course", course, less), ("course", course[:-1], table), ("course", course[::-1], table),
                           ("course", course, {**table, subset(rng, held): rng.choice((0, 1))})]
                if repair:
                    others += [("course", course + (repair,), table), ("course", (repair,) + course, table)]
        for value in others:
            told = told_paper(scheme, *task, value)
            self.assertIs(is_price_paper(scheme, *task, value), told, value)
            seen["judged", told] += 1

    def test_nothing_wanted(self):
        for wanted in ((), ("so",)):
            self.assertEqual(cheapest(shop(), SIZES, ("so",), wanted), ())
            paper = price_paper(shop(), SIZES, ("so",), wanted)
            self.assertEqual(paper, ("course", (), {("so",): 0}))
            self.assertIs(is_price_paper(shop(), SIZES, ("so",), wanted, paper), True)
            self.assertIs(is_price_paper(shop(), SIZES, ("so",), wanted, ("bar", ("so",))), False)

    def test_larger_tables_and_dearer_courses(self):
        task = (shop(), SIZES, ("sc", "so"), ("sco",))
        for table, told in ((TABLE, True), ({**TABLE, ("si",): 0}, True), ({**TABLE, ("si",): LONGEST}, True),
                            ({**TABLE, ("sc", "si", "so"): 5}, False),
                            ({**TABLE, ("sc", "si", "so"): 5, ("sc", "sco", "si", "so"): 0}, True),
                            ({**TABLE, ("sc", "si", "so"): 6, ("sc", "sco", "si", "so"): 0}, False),
                            ({**TABLE, ("sc", "si", "so"): 5, ("sc", "sco", "si", "so"): 1}, False),
                            ({("sc", "so"): 4, ("sc", "sco", "so"): 0}, False), ({("sc", "so"): 5}, False),
                            ({("sc", "so"): 5, ("sc", "sco", "so"): 1}, False),
                            ({("sc", "sco", "so"): 0}, False), ({**TABLE, ("si",): -1}, False), ({**TABLE, (): 0}, True),
                            ({**TABLE, ("si",): TOO_LONG}, False), ({**TABLE, ("sc", "so"): 5, ("sco",): 1}, False)):
            self.assertIs(is_price_paper(*task, ("course", COURSE, table)), told, table)

    def test_values(self):
        task = (shop(), SIZES, ("sc", "so"), ("sco",))
        good = ("course", COURSE, TABLE)
        for value in everything():
            for judged in (value, ("course", value, TABLE), ("course", COURSE, value), (value, COURSE, TABLE),
                           good + (value,), ("bar", value), ("course", (value,), TABLE),
                           ("course", COURSE, {**TABLE, ("sc", "so"): value})):
                self.assertIs(is_price_paper(*task, judged), repr(judged) == repr(good), judged)
            if isinstance(value, (str, int, bool)) or value is None:
                self.assertIs(is_price_paper(*task, ("course", COURSE, {**TABLE, value: 0})), False)
        for judged in (list(good), good[:2], ("course", list(COURSE), TABLE), ("course", COURSE, tuple(TABLE.items())),
                       ("course", (list(COURSE[0]),), TABLE), ("course", COURSE, {**TABLE, ("so", "sc"): 5}),
                       ("course", COURSE, {**TABLE, ("sc", "sco", "so"): False}), ("course", COURSE, {**TABLE, ("sb",): 0})):
            self.assertIs(is_price_paper(*task, judged), False, judged)
        bars = (shop(), SIZES, ("so",), ("sco",))
        for judged, told in ((("bar", ("so",)), True), (("bar", ("si", "so")), True), (("bar", ("si",)), False),
                             (("bar", ("sc", "so")), False), (("bar", ("sco", "so")), False), (("bar", ["so"]), False),
                             (["bar", ("so",)], False), (("bar", ("so", "si")), False), (("bar", ("sb", "so")), False),
                             (("bar",), False), (("bar", ("so",), {}), False), (("course", (), {}), False),
                             (("", ("so",)), False), ((None, ("so",)), False), (("course", ("so",)), False)):
            self.assertIs(is_price_paper(*bars, judged), told, judged)

    def test_many_positions(self):
        """Ten stores that can be filled in any order: all 1024 positions stand in the table."""
        query = Query({"t": ("x",), "u": ("x",)}, (("a", "x", "b", "x"),), a=("core", "t"), b=("core", "u"))
        stores = {"sa": ("plain", ("a",)), "sb": ("plain", ("b",))}
        stores.update({"w" + letter: ("plain", ("a", "b")) for letter in "abcdefghij"})
        scheme = Scheme(query, stores=stores, plans={"p": Plan()}, first="p")
        task = (scheme, {("a", "b"): 3}, ("sa", "sb"), tuple(sorted(set(stores) - {"sa", "sb", "wa"})))
        paper = price_paper(*task)
        self.assertEqual((len(paper[1]), price_of(*task[:2], paper[1]), len(paper[2])), (9, 27, 1024))
        self.assertIs(is_price_paper(*task, paper), True)


class Done(unittest.TestCase):
    def test_courses_as_transitions(self):
        """Behind the course the wanted stores show the matches of the rows that are there."""
        done = 0
        for seed in range(80):
            rng = rng_of("done", seed)
            query = draw_query(rng, most_core=4, sides=())
            if len(query.core) < 3:
                continue
            names = [tree for tree in all_trees(query)]
            made = scheme_by(query, {"a": None, "b": rng.choice(names)})
            stores = made.stores
            wanted = tuple(name for name in stores if len(stores[name][1]) > 1)
            sound = tuple(name for name in stores if len(stores[name][1]) == 1)
            tables = [rng.choice(sorted(query.tables)) for _ in range(10)]
            rows = [(table, draw_row(rng, query, table, most=1)) for table in tables]
            sizes = sizes_in(made, World(query, rows=dict(enumerate(rows, 1))))
            course = cheapest(made, sizes, sound, wanted)
            self.assertEqual(price_of(made, sizes, course), sum(sizes[stores[name][1]] for name in wanted))
            engine = Engine(made.with_steps("a", "b", course))
            for row in rows:
                engine.add(*row)
            engine.switch("b")
            for name in wanted:
                told = plain.all_matches(query, engine.world.rows, stores[name][1])
                self.assertEqual(engine.held(name).pairs(), tuple((match, 1) for match in told))
                done += len(told)
        self.assertGreater(done, 200)

    def test_lazy_stores_show_their_matches(self):
        course = cheapest(lazy_one(), SIZES, ("sc", "si", "so"), ("lcio",))
        engine = Engine(lazy_one().with_steps("flat", "lazy", course))
        for event in (("add", "cus", (1,)), ("add", "item", (7,)), ("add", "ord", (1, 7)), ("load", "lcio", 7), ("switch", "lazy"),
                      ("load", "lcio", 7)):
            engine(event)
        self.assertEqual(engine.held("lcio").pairs(), (((1, 2, 3), 1),))
        self.assertEqual(steps("fill sco sc so, clear lcio"), course)


if __name__ == "__main__":
    unittest.main()
