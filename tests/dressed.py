"""Schemes from trees with more in them: lazy stores, flags, lasting tables, plans that are not reached, spoilt steps."""

from shelfroutes.errors import InvalidPlan, InvalidStore, InvalidTransition
from shelfroutes.plan.plans import Plan
from shelfroutes.plan.schemes import Scheme
from tests.trees import Trees, draw_tree, leaves, without_a_step


def with_lasting(scheme, lasting):
    """The scheme with these lasting tables, and without what they have no pipelines for."""
    query = scheme.query
    plans = {}
    for name, plan in scheme.plans.items():
        plans[name] = Plan({pair: plan[pair] for pair in plan
                            if pair[0] == "add" or query.table_of(pair[1]) not in lasting})
    return Scheme(query, lasting=lasting, stores=scheme.stores, plans=plans, transitions=scheme.transitions,
                  first=scheme.first)


def lazily(rng, made, scheme):
    """The scheme with some of the stores of several roles lazy: what filled them clears them instead."""
    query, stores = scheme.query, scheme.stores
    nodes = {made.store(leaves(node)): node for tree in made.trees.values() for node in made.kept(tree)}
    lazy = [name for name in sorted(nodes) if rng.random() < 0.5]
    for name in lazy:
        roles = leaves(nodes[name])
        role = rng.choice(roles)
        sources = [made.store(leaves(part)) for part in nodes[name]]
        stores[name] = ("lazy", roles, role, rng.choice(query.columns_of(role)), *sources)
    transitions = {}
    for pair, steps in scheme.transitions.items():
        transitions[pair] = tuple(("clear", step[1]) if step[1] in lazy else step for step in steps)
    return Scheme(query, stores=stores, plans=scheme.plans, transitions=transitions, first=scheme.first)


def exchanged(rng, scheme):
    """The scheme with two steps of a pipeline exchanged, or one doubled, if this is a scheme."""
    name = rng.choice(sorted(scheme.plans))
    plan = scheme[name]
    pair = rng.choice(plan.pairs())
    at = rng.randrange(len(plan[pair]))
    steps = list(plan[pair][at])
    one, other = rng.randrange(len(steps)), rng.randrange(len(steps))
    if rng.random() < 0.5:
        steps[one], steps[other] = steps[other], steps[one]
    else:
        steps.insert(other, steps[one])
    pipelines = plan[pair][:at] + (tuple(steps),) + plan[pair][at + 1:]
    try:
        return scheme.with_plan(name, plan.replaced(*pair, pipelines))
    except InvalidPlan:
        return scheme


def without_transition(rng, scheme):
    """The scheme without one of its transitions: some plans may not be reached then."""
    left = dict(scheme.transitions)
    if left:
        del left[rng.choice(sorted(left))]
    return Scheme(scheme.query, lasting=scheme.lasting, stores=scheme.stores, plans=scheme.plans, transitions=left,
                  first=scheme.first)


def draw_dressed(rng, draw_query, spoilt=0, plans=2):
    """A scheme from trees; without spoilt steps it is right, unless lazy stores have sources that are not kept up."""
    while True:
        query = draw_query()
        trees = {name: rng.choice((None, draw_tree(rng, query.core))) for name in "pqr"[:plans]}
        lasting = tuple(table for table in sorted(query.tables) if rng.random() < 0.2)
        flags = [side for side in query.sides if query.table_of(side) in lasting or rng.random() < 0.1]
        made = Trees(query, trees, flags)
        try:
            scheme = with_lasting(lazily(rng, made, made.scheme()), lasting)
        except (InvalidStore, InvalidTransition):
            continue
        if rng.random() < 0.4:
            scheme = without_transition(rng, scheme)
        for _ in range(spoilt):
            scheme = without_a_step(rng, scheme) if rng.random() < 0.6 else exchanged(rng, scheme)
        return scheme
