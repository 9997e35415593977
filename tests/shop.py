"""The examples of the document: the scheme SHOP, made by constructors, and texts."""

from shelfroutes.plan.plans import Plan
from shelfroutes.plan.schemes import Scheme
from shelfroutes.query.queries import Query

TABLES = {"block": ("town",), "cus": ("code", "town"), "item": ("code",), "ord": ("code", "item")}
TESTS = (("b", "town", "c", "town"), ("c", "code", "o", "code"), ("i", "code", "o", "item"))
ROLES = {"b": ("none", "block"), "c": ("core", "cus"), "i": ("core", "item"), "o": ("core", "ord")}
STORES = {"nb": ("counter", "b"), "sb": ("plain", ("b",)), "sc": ("plain", ("c",)), "sco": ("plain", ("c", "o")),
          "si": ("plain", ("i",)), "so": ("plain", ("o",))}
FILL = (("fill", "sco", "sc", "so"),)

SHOP_TEXT = """table block town
table cus code town
table item code
table ord code item
role b none block
role c core cus
role i core item
role o core ord
test b.town = c.town
test c.code = o.code
test i.code = o.item
counter nb b
store sb b
store sc c
store sco c o
store si i
store so o
plan flat
add b: update sb, join sc, count nb, join so, join si, emit
add c: update sc, recount nb sb, none nb, join so, join si, emit
add i: update si, join so, join sc, none nb, emit
add o: update so, join sc, none nb, join si, emit
remove b: update sb, join sc, count nb, join so, join si, emit
remove c: update sc, none nb, join so, join si, emit
remove i: update si, join so, join sc, none nb, emit
remove o: update so, join sc, none nb, join si, emit
plan wide
add b: update sb, join sc, count nb, join so, join si, emit
add c: update sc, recount nb sb, join so, update sco, none nb, join si, emit
add i: update si, join sco, none nb, emit
add o: update so, join sc, update sco, none nb, join si, emit
remove b: update sb, join sc, count nb, join so, join si, emit
remove c: update sc, join so, update sco, none nb, join si, emit
remove i: update si, join sco, none nb, emit
remove o: update so, join sc, update sco, none nb, join si, emit
switch flat wide: fill sco sc so
switch wide flat:
first flat"""

CHAIN_TEXT = ("table cus code\ntable ord code\nrole c core cus\nrole o core ord\ntest c.code = o.code\nstore sc c\n"
              "store so o\nplan flat\nadd c: update sc, join so, emit\nadd o: update so, join sc, emit\n"
              "remove c: update sc, join so, emit\nremove o: update so, join sc, emit\nfirst flat")


def steps(text):
    """A pipeline or a transition from its words."""
    return tuple(tuple(part.split()) for part in text.split(", ")) if text else ()


FLAT_ROUTES = {"b": "update sb, join sc, count nb, join so, join si, emit",
               "c": "update sc, recount nb sb, none nb, join so, join si, emit",
               "i": "update si, join so, join sc, none nb, emit",
               "o": "update so, join sc, none nb, join si, emit"}
WIDE_ROUTES = {"b": "update sb, join sc, count nb, join so, join si, emit",
               "c": "update sc, recount nb sb, join so, update sco, none nb, join si, emit",
               "i": "update si, join sco, none nb, emit",
               "o": "update so, join sc, update sco, none nb, join si, emit"}


def both_ways(routes):
    """A plan from the words of one pipeline for each role, without `Plan.both_ways`."""
    given = {}
    for role, text in routes.items():
        given["add", role] = (steps(text),)
        given["remove", role] = (tuple(step for step in steps(text) if step[0] != "recount"),)
    return Plan(given)


def flat_plan():
    return both_ways(FLAT_ROUTES)


def wide_plan():
    return both_ways(WIDE_ROUTES)


def shop_query():
    return Query(TABLES, TESTS, **ROLES)


def shop(**changed):
    """The scheme SHOP, perhaps with other parts."""
    parts = {"stores": STORES, "plans": {"flat": flat_plan(), "wide": wide_plan()},
             "transitions": {("flat", "wide"): FILL, ("wide", "flat"): ()}, "first": "flat"}
    parts.update(changed)
    return Scheme(shop_query(), **parts)


def lost():
    return shop(transitions={("flat", "wide"): (), ("wide", "flat"): ()})
