"""Drawn queries, stores, pipelines, schemes and histories. What is drawn depends on the seed alone."""

import random

from shelfroutes.errors import InvalidQuery, InvalidTable
from shelfroutes.plan.plans import Plan
from shelfroutes.plan.schemes import Scheme
from shelfroutes.query.queries import Query
from tests import plain
from tests.told import told_change, told_roles_behind

SIDES = ((), (), ("some",), ("none",), ("optional",), ("some", "some"), ("some", "none"), ("none", "none"))
WORDS = ("update", "join", "join", "join", "count", "recount", "some", "none", "emit", "emit")


def rng_of(*seeds):
    return random.Random(repr(seeds))


def subset(rng, values, least=0):
    values = sorted(values)
    return tuple(sorted(rng.sample(values, rng.randint(min(least, len(values)), len(values)))))


def draw_query(rng, most_core=3, sides=None, own_tables=False):
    """A query; tables are shared unless each role is to have its own one."""
    while True:
        sorts = ["core"] * rng.randint(1, most_core) + list(rng.choice(SIDES) if sides is None else sides)
        roles, tables = {}, {}
        names = rng.sample("abcdefgh", len(sorts))
        for at, (role, sort) in enumerate(zip(names, sorts)):
            table = "t" + role if own_tables or not tables or rng.random() < 0.75 else rng.choice(sorted(tables))
            roles[role] = (sort, table)
            tables.setdefault(table, subset(rng, "xyz", least=1))
        while len(tables) > 6:
            tables.popitem()
        places = [(role, column) for role in roles for column in tables.get(roles[role][1], ())]
        pairs = [one + other for one in places for other in places if one[0] < other[0]]
        tests = tuple(sorted(rng.sample(pairs, min(len(pairs), rng.choice((0, 1, 2, 2, 3, len(sorts) + 1))))))
        try:
            return Query.of(tables, tests, roles)
        except (InvalidQuery, InvalidTable):
            continue


def draw_row(rng, query, table, most=2):
    return tuple(rng.randint(0, most) for _ in query.tables[table])


def draw_rows(rng, query, many, most=2):
    rows = {}
    for key in sorted(rng.sample(range(1, 3 * many + 1), many)):
        table = rng.choice(sorted(query.tables))
        rows[key] = (table, draw_row(rng, query, table, most))
    return rows


def draw_stores(rng, query):
    """Stores of most roles and of some joins, lazy ones, and a counter or flag for each side role."""
    stores = {}

    def put(letter, entry):
        if len(stores) < 12:
            stores[letter + "abcdefghijkl"[len(stores)]] = entry
    for side in query.sides:
        put("n", (rng.choice(("counter", "counter", "flag")), side))
    for role in query.core + query.sides:
        for _ in range(rng.choice((0, 1, 1, 1, 1, 1, 1, 1, 2))):
            put("s", ("plain", (role,)))
    for _ in range(rng.randint(0, 4)):
        put("p", ("plain", subset(rng, query.core, least=2)))
    for _ in range(rng.randint(0, 4)):
        held = sorted(name for name in stores if stores[name][0] in ("plain", "lazy")
                      and stores[name][1][0] in query.core)
        pairs = [(one, other) for one in held for other in held if not set(stores[one][1]) & set(stores[other][1])]
        if pairs:
            one, other = rng.choice(pairs)
            roles = tuple(sorted(stores[one][1] + stores[other][1]))
            role = rng.choice(roles)
            put("l", ("lazy", roles, role, rng.choice(query.columns_of(role)), one, other))
    return stores


def draw_step(rng, stores, changes=False):
    names = sorted(stores) or ["none"]
    if changes:
        word = rng.choice(("fill", "fill", "append", "clear", "recount", "recount", "reset"))
        many = {"fill": 3, "append": 3, "clear": 1, "recount": 3, "reset": 1}[word]
    else:
        word = rng.choice(WORDS)
        many = {"recount": 2, "emit": 0}.get(word, 1)
    return (word,) + tuple(rng.choice(names) for _ in range(many))


def all_steps(stores):
    """All steps with these names that can be right somewhere."""
    plain_ones = [name for name in stores if stores[name][0] == "plain"]
    found = [(word, name) for word in ("update", "join", "count", "some", "none") for name in stores]
    return found + [("recount", name, other) for name in stores for other in plain_ones] + [("emit",)]


def draw_pipeline(rng, query, stores, word, role, most=8):
    """A pipeline that is right for its pair, or () if there is none that goes on."""
    weights = {"update": 2, "join": 4, "count": 8, "recount": 6, "some": 2, "none": 2, "emit": 8}
    roles, pipeline, has_chosen = (role,), (), False
    while len(pipeline) < most:
        right = []
        for step in all_steps(stores):
            behind = told_roles_behind(query, stores, word, role, roles, step)
            if behind is not None and not (has_chosen and step[0] in ("update", "count", "recount")):
                right.append((step, behind))
        if not right or rng.random() < 0.05:
            break
        ties = query.ties(role) if role in query.sides else ()
        told = [weights[step[0]] * (0.1 if step in pipeline else 1) *
                (4 if step[0] == "join" and set(stores[step[1]][1]) <= set(ties) else 1) for step, _ in right]
        step, roles = rng.choices(right, told)[0]
        pipeline += (step,)
        has_chosen = has_chosen or step[0] in ("count", "some", "none")
        if step[0] == "emit":
            break
    return pipeline


def draw_plan(rng, query, stores, lasting):
    given = {}
    for role in query.roles:
        for word in ("add", "remove"):
            if word == "add" or query.table_of(role) not in lasting:
                drawn = [draw_pipeline(rng, query, stores, word, role) for _ in range(rng.choice((0, 1, 1, 2, 2, 3)))]
                # Most plans keep up the stores of single roles, so that other pipelines find something there.
                drawn.append(tuple(("update", name) for name in stores
                                   if stores[name] == ("plain", (role,)) and rng.random() < 0.7))
                given[word, role] = tuple(pipeline for pipeline in drawn if pipeline)
    return Plan(given)


def draw_transition(rng, query, stores, many=3):
    steps, changed = (), set()
    for _ in range(60):
        step = draw_step(rng, stores, changes=True)
        if len(steps) < many and step[1] not in changed and told_change(query, stores, step):
            steps += (step,)
            changed.add(step[1])
    return steps


def draw_scheme(rng, query=None):
    query = draw_query(rng) if query is None else query
    stores = draw_stores(rng, query)
    lasting = tuple(table for table in sorted(query.tables) if rng.random() < 0.15)
    names = sorted(rng.sample(("flat", "wide", "late", "mid"), rng.randint(1, 3)))
    plans = {name: draw_plan(rng, query, stores, lasting) for name in names}
    transitions = {(one, other): draw_transition(rng, query, stores) for one in names for other in names
                   if one != other and rng.random() < 0.8}
    return Scheme(query, lasting=lasting, stores=stores, plans=plans, transitions=transitions, first=rng.choice(names))


def draw_event(rng, scheme, plan, present, most=2):
    """An event that an engine with this plan and these rows accepts."""
    query = scheme.query
    lazy = sorted(name for name, entry in scheme.stores.items() if entry[0] == "lazy")
    while True:
        word = rng.choice(("add", "add", "add", "remove", "remove", "switch", "load", "evict"))
        if word == "add":
            table = rng.choice(sorted(query.tables))
            return ("add", table, draw_row(rng, query, table, most))
        if word == "remove":
            keys = [key for key in sorted(present) if present[key][0] not in scheme.lasting]
            if keys:
                return ("remove", rng.choice(keys))
        elif word == "switch":
            others = [other for name, other in scheme.transitions if name == plan]
            if others:
                return ("switch", rng.choice(others))
        elif lazy:
            return (word, rng.choice(lazy), rng.randint(0, most))


def draw_history(seed, scheme, many, most=2):
    """Events that an engine of a scheme accepts, drawn along the second reckoning."""
    rng = rng_of(seed)
    engine = plain.PlainEngine(scheme)
    events = []
    for _ in range(many):
        event = draw_event(rng, scheme, engine.plan, engine.present(), most)
        engine.do(event)
        events.append(event)
    return tuple(events)
