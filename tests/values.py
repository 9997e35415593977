"""Values of all kinds for the tests, and what is valid, told independently of the package."""

import re

from shelfroutes.base.bags import Bag
from shelfroutes.check.invariants import Reach
from shelfroutes.errors import InvalidBag, TooMany, UnknownName
from shelfroutes.plan.plans import Plan
from shelfroutes.plan.schemes import Draft
from shelfroutes.query.queries import Query
from shelfroutes.query.worlds import World
from shelfroutes.run.engine import Engine
from shelfroutes.run.guarded import Guard, GuardedEngine
from shelfroutes.text.shell import Shell
from tests.shop import SHOP_TEXT, flat_plan, shop, shop_query

LONGEST = 10 ** 60 - 1
TOO_LONG = 10 ** 60
MADE = []


def named(value):
    return isinstance(value, str) and re.fullmatch("[a-z]{1,8}", value) is not None


def whole(value):
    return type(value) is int and len(str(abs(value))) <= 60


def nested(make):
    value = 1
    for _ in range(10):
        value = make(value)
    return value


def everything():
    """New values of all kinds, among them many that are nearly a name, an integer, a row or a result."""
    numbers = [0, 1, 2, 7, -1, 9, 10, LONGEST, -LONGEST, TOO_LONG, -TOO_LONG, 10 ** 99, -(10 ** 100 - 1)]
    words = ["", " ", "\n", "a", "b", "c", "x", "cus", "town", "core", "none", "some", "optional", "side",
             "abcdefgh", "abcdefghi", "A", "Cus", "a1", "a_b", "a b", "a\n", "\na", "1", "~", "`", "{",
             "a" * 4000, "Core", "core ", "a.b", "None", "()"]
    parts = numbers + words + [True, False, None]
    tuples = [(part,) for part in parts] + [(1, part) for part in parts] + [(part, 1) for part in parts]
    tuples += [("c", part) for part in parts] + [("core", part) for part in parts] + [(part, "cus") for part in parts]
    tuples += [(), ((),), (1,) * 5, (1,) * 6, (1,) * 7, (1, 2, 3, 4, None), (1, 2, 3, 4, 5, None), (1, None, 2),
               (1, None, None), (None, None), ((1, 2),), ((1, 2), 1), ([],), ({},), (1, []), (1, {}),
               ("a", "b", "c", "d", "e", "f"), ("a", "b", "c", "d", "e", "f", "g"), ("b", "a"), ("a", "a"),
               ("b", "town", "c", "town"), (("b", "town", "c", "town"),)]
    lists = [[], [1], [1, 2], ["a"], ["core", "cus"], [None], [[]], [()], [(1, 2)]]
    dicts = [{}, {1: 2}, {"a": ("b",)}, {"a": 1}, {(1,): 2}, {(1,): True}, {None: None}, {(): ()}, {"c": (1, 2)},
             {"c": ("core", "cus")}, {1: ("core", "cus")}, {True: 1}]
    tuples += [("add", "c"), ("remove", "c"), ("add", "c", "i"), ("update", "so"), ("emit",), (("emit",),),
               ("recount", "nb", "sb"), ("fill", "sco", "sc", "so"), (("clear", "sco"),), ("plain", ("c",)),
               ("counter", "b"), ("cus", (1, 5)), ("add", "cus", (1, 5)), ("remove", 1), ("switch", "wide"),
               ("load", "sco", 1), (("add", "cus", (1, 5)),), ("counterexample", ()), ("invariant", ()), ("local", ()),
               ("bar", ()), ("course", (), {}), ("switch", "flat", "wide", 0), ((), ()), (("c", "o"), "i"), ("c", "o"), ("b", "c", "o"),
               ("flat", ("out", "out", "out"), (0, 0, 0, 0), (), ((None, ()),))]
    dicts += [{1: ("cus", (1, 5))}, {"sc": ("plain", ("c",))}, {("add", "c"): ((("emit",),),)}, {"c": (("emit",),)}]
    deep = [nested(lambda value: (value,)), nested(lambda value: [value]), nested(lambda value: {1: value})]
    return parts + tuples + lists + dicts + deep + objects()


def objects():
    """Objects of the package."""
    scheme = shop()
    draft, engine = Draft(scheme), Engine(scheme)
    if not MADE:
        # What takes time to make, and never changes or is never told to.
        MADE.extend([Reach(scheme), GuardedEngine(scheme), Guard(), Shell(SHOP_TEXT)])
    return [Bag(), Bag({(1, 2): 3}), shop_query(), Query({"a": ("b",)}, c=("core", "a")),
            World(shop_query()), World(shop_query(), rows={1: ("cus", (1, 5))}), Plan(), flat_plan(), scheme, draft,
            draft.group(), engine, engine.trial(), InvalidBag("wrong"), UnknownName("a"), TooMany(100)] + MADE


def those_not(is_valid):
    """New values of all kinds that are not valid."""
    return [value for value in everything() if not is_valid(value)]
