"""Schemes that are right, made from trees as the document tells: a tree is a core role or a pair of trees."""

from shelfroutes.errors import InvalidPlan, InvalidStore
from shelfroutes.plan.plans import Plan
from shelfroutes.plan.schemes import Scheme


def leaves(tree):
    return (tree,) if isinstance(tree, str) else tuple(sorted(leaves(tree[0]) + leaves(tree[1])))


def nodes(tree):
    return [tree] if isinstance(tree, str) else nodes(tree[0]) + nodes(tree[1]) + [tree]


def draw_tree(rng, roles):
    roles = list(roles)
    if len(roles) == 1:
        return roles[0]
    rng.shuffle(roles)
    at = rng.randint(1, len(roles) - 1)
    return (draw_tree(rng, roles[:at]), draw_tree(rng, roles[at:]))


class Trees:
    def __init__(self, query, trees, flags=()):
        self.query, self.trees, self.flags = query, trees, flags
        self.letters = dict(zip(sorted(query.roles), "abcdefgh"))

    def store(self, roles):
        return "s" + "".join(self.letters[role] for role in sorted(roles))

    def counter(self, side):
        return "n" + self.letters[side]

    def all_of(self, roles):
        return tuple(("join", self.store((role,))) for role in sorted(roles))

    def gates(self, but=None):
        return tuple((self.query.sort_of(side), self.counter(side)) for side in self.query.sides
                     if side != but and self.query.sort_of(side) != "optional")

    def climb(self, tree, role, updates):
        """The joins from a leaf up to the tree, and perhaps the updates of the nodes on the way."""
        steps, node = (), role
        while tree is not None and node != tree:
            upper, = [other for other in nodes(tree) if not isinstance(other, str) and node in other]
            part = upper[1] if upper[0] == node else upper[0]
            steps += (("join", self.store(leaves(part))),)
            node = upper
            if updates and node != tree:
                steps += (("update", self.store(leaves(node))),)
        if tree is None:
            return self.all_of(set(self.query.core) - {role})
        return steps

    def of_core(self, tree, role):
        query = self.query
        recounts = [self.all_of(set(query.ties(side)) - {role}) + (("recount", self.counter(side), self.store((side,))),)
                    for side in query.sides if role in query.ties(side)]
        last = (("emit",),)
        with_side = (("join", self.store((query.optional,))),) if query.optional else ()
        routes = [(("update", self.store((role,))),) + self.climb(tree, role, True) + self.gates() + with_side + last]
        if query.optional:
            routes.append(self.climb(tree, role, False) + (("none", self.counter(query.optional)),) + last)
        return tuple(recounts), tuple(routes)

    def of_side(self, side):
        query = self.query
        tied = self.all_of(query.ties(side))
        others = self.all_of(set(query.core) - set(query.ties(side)))
        first = (("update", self.store((side,))),)
        count, last = (("count", self.counter(side)),), (("emit",),)
        if side == query.optional:
            return (), (first + self.all_of(query.core) + last, tied + count + others + last)
        return (), (first + tied + count + others + self.gates(side) + last,)

    def plan(self, tree):
        given = {}
        for role in self.query.roles:
            ahead, routes = self.of_core(tree, role) if role in self.query.core else self.of_side(role)
            given["add", role] = ahead + routes
            given["remove", role] = routes
        return Plan(given)

    def kept(self, tree):
        return [] if tree is None else [node for node in nodes(tree) if not isinstance(node, str) and node != tree]

    def stores(self):
        query = self.query
        entries = {self.store((role,)): ("plain", (role,)) for role in query.roles}
        entries.update({self.counter(side): ("flag" if side in self.flags else "counter", side) for side in query.sides})
        for tree in self.trees.values():
            for node in self.kept(tree):
                entries[self.store(leaves(node))] = ("plain", leaves(node))
        return entries

    def fills(self, old, new):
        there = [leaves(node) for node in self.kept(old)]
        return tuple(("fill", self.store(leaves(node)), self.store(leaves(node[0])), self.store(leaves(node[1])))
                     for node in self.kept(new) if leaves(node) not in there)

    def scheme(self):
        plans = {name: self.plan(tree) for name, tree in self.trees.items()}
        transitions = {(one, other): self.fills(self.trees[one], self.trees[other])
                       for one in plans for other in plans if one != other}
        return Scheme(self.query, stores=self.stores(), plans=plans, transitions=transitions, first=min(plans))


def draw_tree_scheme(rng, draw_query, spoilt=0):
    """A scheme from trees, perhaps with flags and without some of its steps: then it is most often wrong."""
    while True:
        query = draw_query()
        trees = {"a": None, "b": draw_tree(rng, query.core), "c": draw_tree(rng, query.core)}
        flags = [side for side in query.sides if spoilt and rng.random() < 0.3]
        try:
            scheme = Trees(query, trees, flags).scheme()
        except InvalidStore:
            continue
        for _ in range(spoilt):
            scheme = without_a_step(rng, scheme)
        return scheme


def without_a_step(rng, scheme):
    """The scheme without a step of a pipeline or of a transition, if this is a scheme."""
    name = rng.choice(sorted(scheme.plans))
    plan = scheme[name]
    pair = rng.choice(plan.pairs())
    at = rng.randrange(len(plan[pair]))
    pipeline = plan[pair][at]
    place = rng.randrange(len(pipeline))
    rest = pipeline[:place] + pipeline[place + 1:]
    pipelines = plan[pair][:at] + ((rest,) if rest else ()) + plan[pair][at + 1:]
    changes = sorted(pair for pair in scheme.transitions if scheme.transitions[pair])
    if changes and rng.random() < 0.3:
        one, other = rng.choice(changes)
        steps = scheme.steps_of(one, other)
        return scheme.with_steps(one, other, steps[1:])
    try:
        return scheme.with_plan(name, plan.replaced(*pair, pipelines))
    except InvalidPlan:
        return scheme
