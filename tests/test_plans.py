import itertools
import unittest

from shelfroutes.errors import InvalidOperation, InvalidPlan
from shelfroutes.plan.plans import MAX_PIPELINES, MAX_ROLES, Plan
from tests.draws import rng_of
from tests.shop import FLAT_ROUTES, flat_plan, shop, steps, wide_plan
from tests.told import named, told_pipeline
from tests.values import everything, those_not

ONE, TWO, THREE = steps("update sa, join sb, emit"), steps("join sb"), steps("some na, emit")
FOUR, FIVE = steps("recount na sa, update sb"), steps("recount na sa")
ROUTES = (ONE, TWO, THREE, FOUR, FIVE)


def told_pair(value):
    return (isinstance(value, tuple) and len(value) == 2 and value[0] in ("add", "remove") and named(value[1]))


def told_routes(value):
    return isinstance(value, tuple) and len(value) <= 4 and all(told_pipeline(part) for part in value)


def told_plan(value):
    if value is None:
        return True
    if not isinstance(value, dict) or not all(told_pair(pair) and told_routes(value[pair]) for pair in value):
        return False
    return len({pair[1] for pair in value if value[pair]}) <= 6


def drawn_pairs(rng):
    return {(rng.choice(("add", "remove")), rng.choice("abc")): tuple(rng.choices(ROUTES, k=rng.randint(0, 2)))
            for _ in range(4)}


class Interface(unittest.TestCase):
    def test_constants(self):
        self.assertEqual((MAX_PIPELINES, MAX_ROLES), (4, 6))

    def test_members_are_defined_in_the_class(self):
        self.assertEqual(Plan.__module__, "shelfroutes.plan.plans")
        for name in ("__init__", "__getitem__", "__contains__", "pairs", "__iter__", "__len__", "__eq__", "__str__",
                     "__or__", "__and__", "__sub__", "is_within", "replaced", "names", "arrivals", "removals",
                     "both_ways"):
            self.assertIn(name, vars(Plan))

    def test_example(self):
        scheme = shop()
        flat, wide = scheme["flat"], scheme["wide"]
        self.assertEqual(
            [len(flat), (flat & wide).pairs(), ("add", "i") in flat - wide, flat["add", "x"], str(flat | wide)],
            [8, (("add", "b"), ("remove", "b")), True, (), "plan of 14 pipelines"])
        given = {"c": ((("update", "sc"), ("recount", "nb", "sb")), (("recount", "nb", "sb"),))}
        self.assertEqual(Plan.both_ways(given)["remove", "c"], ((("update", "sc"),),))


class Made(unittest.TestCase):
    def test_pairs(self):
        plan = Plan({("remove", "b"): (ONE, TWO), ("add", "c"): (THREE,), ("add", "a"): (ONE, ONE), ("add", "z"): ()})
        pairs = (("add", "a"), ("add", "c"), ("remove", "b"))
        self.assertEqual((plan.pairs(), tuple(plan), len(plan)), (pairs, pairs, 5))
        self.assertEqual((plan["remove", "b"], plan["add", "a"], plan["add", "z"]), ((ONE, TWO), (ONE, ONE), ()))
        self.assertEqual(str(plan), "plan of 5 pipelines")

    def test_empty(self):
        for plan in (Plan(), Plan(None), Plan({}), Plan({("add", "c"): ()}), Plan(pipelines=None)):
            self.assertEqual((plan.pairs(), list(plan), len(plan), plan.names()), ((), [], 0, ()))
            self.assertTrue(plan == Plan())
            self.assertNotIn(("add", "c"), plan)

    def test_values_of_all_kinds(self):
        for value in everything():
            if told_plan(value):
                Plan(value)
            else:
                with self.assertRaises(InvalidPlan):
                    Plan(value)
            if not told_routes(value):
                with self.assertRaises(InvalidPlan):
                    Plan({("add", "c"): value})
                with self.assertRaises(InvalidPlan):
                    Plan({("add", "b"): (ONE,), ("add", "c"): value})
            if not told_pipeline(value):
                with self.assertRaises(InvalidPlan):
                    Plan({("add", "c"): (ONE, value)})
            if not named(value) and not isinstance(value, (list, dict)):
                for pair in (("add", value), (value, "c")):
                    try:
                        given = {pair: (ONE,)}
                    except TypeError:
                        continue
                    with self.assertRaises(InvalidPlan):
                        Plan(given)

    def test_four_pipelines_a_pair(self):
        for many in range(6):
            given = {("add", "c"): (ONE,) * many, ("remove", "c"): (TWO,) * 4}
            if many <= 4:
                self.assertEqual(len(Plan(given)), many + 4)
            else:
                with self.assertRaises(InvalidPlan):
                    Plan(given)

    def test_six_roles(self):
        six = {(word, role): (ONE,) for word in ("add", "remove") for role in "abcdef"}
        self.assertEqual(len(Plan(six)), 12)
        self.assertEqual(len(Plan({**six, ("add", "g"): (), ("remove", "h"): ()})), 12)
        for word in ("add", "remove"):
            with self.assertRaises(InvalidPlan):
                Plan({**six, (word, "g"): (ONE,)})
        with self.assertRaises(InvalidPlan):
            Plan({**six, ("add", "g"): 5})

    def test_nothing_gives_access(self):
        given = {("add", "c"): (ONE,)}
        plan = Plan(given)
        given["add", "d"] = (ONE,)
        given["add", "c"] = ()
        self.assertEqual(plan.pairs(), (("add", "c"),))


class Read(unittest.TestCase):
    def test_items_and_in(self):
        plan = flat_plan()
        for value in everything():
            told = told_pair(value)
            self.assertIs(value in plan, told and value[1] in ("b", "c", "i", "o"))
            if not told:
                with self.assertRaises(InvalidOperation):
                    plan[value]
                for pair in (("add", value), (value, "c")):
                    if not told_pair(pair):
                        self.assertIs(pair in plan, False)
                        with self.assertRaises(InvalidOperation):
                            plan[pair]
        self.assertEqual(plan["add", "o"], (steps(FLAT_ROUTES["o"]),))
        self.assertEqual(plan["add", "zz"], ())

    def test_iteration_ascends(self):
        plan = flat_plan()
        self.assertEqual(list(plan), sorted(plan.pairs()))
        self.assertIsInstance(plan.pairs(), tuple)

    def test_equality(self):
        plan = flat_plan()
        for value in [value for value in everything() if not isinstance(value, Plan)]:
            self.assertIs(plan == value, False)
            self.assertIs(plan != value, True)
        self.assertTrue(plan == flat_plan())
        self.assertFalse(plan != flat_plan())
        self.assertFalse(plan == wide_plan())
        self.assertFalse(Plan({("add", "c"): (ONE, TWO)}) == Plan({("add", "c"): (TWO, ONE)}))
        self.assertTrue(Plan({("add", "c"): (ONE,), ("add", "d"): ()}) == Plan({("add", "c"): (ONE,)}))

    def test_names(self):
        self.assertEqual(flat_plan().names(), ("nb", "sb", "sc", "si", "so"))
        self.assertEqual(wide_plan().names(), ("nb", "sb", "sc", "sco", "si", "so"))
        self.assertEqual(Plan({("add", "c"): (FIVE, (("emit",),))}).names(), ("na", "sa"))

    def test_arrivals_and_removals(self):
        plan = flat_plan()
        self.assertEqual(plan.arrivals.pairs(), tuple(("add", role) for role in "bcio"))
        self.assertEqual(plan.removals.pairs(), tuple(("remove", role) for role in "bcio"))
        self.assertEqual(plan.arrivals | plan.removals, plan)
        self.assertIsInstance(plan.arrivals, Plan)


class Computed(unittest.TestCase):
    def setUp(self):
        self.one = Plan({("add", "a"): (ONE, TWO, ONE), ("remove", "b"): (THREE,)})
        self.other = Plan({("add", "a"): (THREE, ONE, THREE), ("add", "b"): (ONE,), ("remove", "b"): (THREE,)})

    def test_union(self):
        both = self.one | Plan({("add", "b"): (ONE,), ("remove", "b"): (THREE,)})
        self.assertEqual(both.pairs(), (("add", "a"), ("add", "b"), ("remove", "b")))
        self.assertEqual((both["remove", "b"], both["add", "a"]), ((THREE,), (ONE, TWO, ONE)))
        for other in (self.other, Plan({("add", "a"): (THREE, FOUR)})):
            with self.assertRaises(InvalidOperation):
                self.one | other

    def test_union_in_order_with_repeats(self):
        one, other = Plan({("add", "a"): (TWO, ONE)}), Plan({("add", "a"): (THREE, ONE, THREE)})
        self.assertEqual((one | other)["add", "a"], (TWO, ONE, THREE, THREE))
        self.assertEqual((other | one)["add", "a"], (THREE, ONE, THREE, TWO))
        self.assertEqual((Plan({("add", "a"): (ONE, ONE)}) | one)["add", "a"], (ONE, ONE, TWO))

    def test_intersection_and_difference(self):
        self.assertEqual((self.one & self.other)["add", "a"], (ONE, ONE))
        self.assertEqual((self.one - self.other)["add", "a"], (TWO,))
        self.assertEqual((self.other - self.one)["add", "a"], (THREE, THREE))
        self.assertEqual((self.one & self.other).pairs(), (("add", "a"), ("remove", "b")))
        self.assertEqual((self.one - self.other).pairs(), (("add", "a"),))
        self.assertEqual(self.one - self.one, Plan())
        self.assertEqual((self.one["add", "a"], self.other["add", "a"]), ((ONE, TWO, ONE), (THREE, ONE, THREE)))

    def test_compared_with_tuples(self):
        for seed in range(300):
            rng = rng_of("plans", seed)
            first, second = drawn_pairs(rng), drawn_pairs(rng)
            one, other = Plan(first), Plan(second)
            is_plan = True
            for pair in itertools.product(("add", "remove"), "abc"):
                mine, theirs = first.get(pair, ()), second.get(pair, ())
                union = mine + tuple(part for part in theirs if part not in mine)
                is_plan = is_plan and len(union) <= 4
                self.assertEqual((one & other)[pair], tuple(part for part in mine if part in theirs))
                self.assertEqual((one - other)[pair], tuple(part for part in mine if part not in theirs))
                if is_plan:
                    self.assertEqual((one | other)[pair], union)
            self.assertIs(one.is_within(other), all(part in second.get(pair, ()) for pair in first for part in first[pair]))
            self.assertTrue((one & other).is_within(one) and (one - other).is_within(one))
            self.assertTrue(one.is_within(one | other) and other.is_within(one | other))

    def test_in_place_signs_give_a_new_plan(self):
        plan = same = flat_plan()
        plan |= wide_plan()
        self.assertEqual((len(plan), same == flat_plan()), (14, True))
        plan &= flat_plan()
        self.assertEqual(plan, flat_plan())
        plan -= wide_plan()
        self.assertEqual((plan, same), (flat_plan() - wide_plan(), flat_plan()))

    def test_too_much(self):
        four = Plan({("add", "a"): (ONE, TWO, THREE, FOUR)})
        with self.assertRaises(InvalidOperation):
            four | Plan({("add", "a"): (FIVE,)})
        self.assertEqual(four | Plan({("add", "a"): (FOUR, ONE)}), four)
        six = Plan({("add", role): (ONE,) for role in "abcdef"})
        with self.assertRaises(InvalidOperation):
            six | Plan({("remove", "g"): (ONE,)})
        self.assertEqual(len(six | Plan({("remove", "f"): (ONE,)})), 7)

    def test_wrong_others(self):
        for value in those_not(lambda value: isinstance(value, Plan)):
            plan = flat_plan()
            for call in (lambda: plan | value, lambda: plan & value, lambda: plan - value,
                         lambda: plan.is_within(value)):
                with self.assertRaises(InvalidOperation):
                    call()
            with self.assertRaises(InvalidOperation):
                plan |= value
            self.assertEqual(plan, flat_plan())

    def test_within(self):
        flat, wide = flat_plan(), wide_plan()
        self.assertEqual([flat.is_within(wide), (flat & wide).is_within(wide), Plan().is_within(Plan()),
                          flat.is_within(flat | wide), flat.is_within(Plan())], [False, True, True, True, False])


class Replaced(unittest.TestCase):
    def test_pairs(self):
        plan = flat_plan()
        self.assertEqual(plan.replaced("add", "c", (ONE, TWO))["add", "c"], (ONE, TWO))
        self.assertEqual(plan.replaced("add", "z", (ONE,)).pairs()[-5], ("add", "z"))
        self.assertEqual(plan.replaced("add", "c", ()).pairs(), plan.pairs()[:1] + plan.pairs()[2:])
        self.assertEqual(plan, flat_plan())

    def test_errors_in_their_order(self):
        plan = flat_plan()
        for value in those_not(lambda value: value in ("add", "remove")):
            for later in (("c", (ONE,)), ("c", None), (None, None)):
                with self.assertRaises(InvalidOperation):
                    plan.replaced(value, *later)
        for value in those_not(named):
            for later in ((ONE,), None):
                with self.assertRaises(InvalidOperation):
                    plan.replaced("add", value, later)
        for value in those_not(told_routes):
            with self.assertRaises(InvalidPlan):
                plan.replaced("add", "c", value)
        six = Plan({("add", role): (ONE,) for role in "abcdef"})
        with self.assertRaises(InvalidPlan):
            six.replaced("remove", "g", (ONE,))
        self.assertEqual(six.replaced("remove", "g", ()), six)


class BothWays(unittest.TestCase):
    def test_without_recounts(self):
        plan = Plan.both_ways({"a": (ONE, FOUR, FIVE), "b": (FIVE,), "c": ()})
        self.assertEqual(plan.pairs(), (("add", "a"), ("add", "b"), ("remove", "a")))
        self.assertEqual(plan["add", "a"], (ONE, FOUR, FIVE))
        self.assertEqual(plan["remove", "a"], (ONE, (("update", "sb"),)))
        self.assertEqual(plan["remove", "b"], ())
        self.assertEqual(Plan.both_ways({}), Plan())
        self.assertEqual(Plan.both_ways({role: (steps(text),) for role, text in FLAT_ROUTES.items()}), flat_plan())
        self.assertIs(type(plan), Plan)

    def test_wrong_values(self):
        def told(value):
            return (isinstance(value, dict) and all(named(role) and told_routes(value[role]) for role in value)
                    and len([role for role in value if value[role]]) <= 6)
        for value in everything():
            if told(value):
                self.assertIsInstance(Plan.both_ways(value), Plan)
            else:
                with self.assertRaises(InvalidPlan):
                    Plan.both_ways(value)
            if not told_routes(value):
                with self.assertRaises(InvalidPlan):
                    Plan.both_ways({"b": (ONE,), "c": value})
        for given in ({role: (ONE,) for role in "abcdefg"}, {"a": (ONE,) * 5}, {"a": (FIVE,) * 5}, {1: (ONE,)},
                      {("add", "c"): (ONE,)}, None):
            with self.assertRaises(InvalidPlan):
                Plan.both_ways(given)
        self.assertEqual(len(Plan.both_ways({role: (ONE,) * 4 for role in "abcdef"})), 48)


if __name__ == "__main__":
    unittest.main()
