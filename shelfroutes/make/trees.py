"""Schemes from trees: each plan joins the core roles in the order of a tree and keeps up a store for each node."""

from shelfroutes.base.names import is_ascending, is_name, is_tuple
from shelfroutes.errors import InvalidQuery, InvalidTable, InvalidTree, TooMany, UnknownName
from shelfroutes.plan.plans import Plan
from shelfroutes.plan.schemes import MAX_PLANS, MAX_STORES, Scheme
from shelfroutes.query.queries import MAX_CORE, MAX_TABLES, Query

_LETTERS = "abcdef"


def is_tree(query, value):
    """Whether the value is a tree of a query."""
    _check_query(query)
    roles = _leaves(value)
    return roles is not None and tuple(sorted(roles)) == query.core


def nodes(tree):
    """Yield the ascending tuples of the roles of the nodes, parts before wholes."""
    roles = _leaves(tree)
    if roles is None or len(roles) > MAX_CORE or len(set(roles)) < len(roles):
        raise InvalidTree("neither a name nor a pair of trees with different names")
    yield from [_roles_in(node) for node in _nodes_in(tree)]


def all_trees(query):
    """Yield the trees in which each first part of a pair has its least role."""
    _check_query(query)
    yield from _trees_over(query.core)


def plan_by(query, tree):
    """The plan by a tree, or by None."""
    _check_tree(query, tree)
    return Plan(_pipelines_by(query, tree))


def stores_by(query, trees):
    """The dict of all stores and counters of the plans by some trees."""
    _check_trees(query, trees)
    entries = {_store(query, (role,)): ("plain", (role,)) for role in query.roles}
    for side in query.sides:
        entries[_counter(query, side)] = ("counter", side)
    for plan in trees:
        for node in _kept_nodes(trees[plan]):
            entries[_store(query, _roles_in(node))] = ("plain", _roles_in(node))
    if len(entries) > MAX_STORES:
        raise TooMany(MAX_STORES)
    return {name: entries[name] for name in sorted(entries)}


def scheme_by(query, trees, *, first=None, lasting=()):
    """The scheme with the plans by some trees, and with a transition for each pair of them."""
    _check_trees(query, trees)
    if first is not None and not (is_name(first) and first in trees):
        raise UnknownName(first)
    if not is_ascending(lasting, 0, MAX_TABLES) or not all([table in query.tables for table in lasting]):
        raise InvalidTable("not an ascending tuple of tables")
    plans = {}
    for name in trees:
        pipelines = _pipelines_by(query, trees[name])
        plans[name] = Plan({pair: pipelines[pair] for pair in pipelines
                            if pair[0] == "add" or query.table_of(pair[1]) not in lasting})
    transitions = {(one, other): _fills(query, trees[one], trees[other])
                   for one in trees for other in trees if one != other}
    return Scheme(query, lasting=lasting, stores=stores_by(query, trees), plans=plans, transitions=transitions,
                  first=min(list(trees)) if first is None else first)


def _check_query(value):
    if not isinstance(value, Query):
        raise InvalidQuery("not a query")


def _check_tree(query, tree):
    _check_query(query)
    if tree is not None and not is_tree(query, tree):
        raise InvalidTree("not a tree of this query")


def _check_trees(query, trees):
    _check_query(query)
    if not isinstance(trees, dict) or not 1 <= len(trees) <= MAX_PLANS or not all([is_name(name) for name in trees]):
        raise InvalidTree("not a dict from one to six names of plans")
    for name in trees:
        _check_tree(query, trees[name])


def _leaves(value):
    """A list of the names in a tree, or None if the value is neither a name nor a pair of such trees."""
    if is_name(value):
        return [value]
    if not is_tuple(value, 2, 2):
        return None
    one, other = _leaves(value[0]), _leaves(value[1])
    return None if one is None or other is None else one + other


def _roles_in(tree):
    return tuple(sorted(_leaves(tree)))


def _nodes_in(tree):
    """A list of the trees in a tree, parts before wholes."""
    return [tree] if is_name(tree) else _nodes_in(tree[0]) + _nodes_in(tree[1]) + [tree]


def _kept_nodes(tree):
    """A list of the nodes of several roles, except the tree itself, for which a plan keeps up a store."""
    return [] if tree is None else [node for node in _nodes_in(tree) if not is_name(node) and node != tree]


def _trees_over(roles):
    """A list of the trees over an ascending tuple of roles in which first parts of pairs have the least roles."""
    if len(roles) == 1:
        return [roles[0]]
    found = []
    for one in _subsets(roles[1:]):
        other = tuple([role for role in roles[1:] if role not in one])
        if other != ():
            found.extend([(left, right) for left in _trees_over(roles[:1] + one) for right in _trees_over(other)])
    return found


def _subsets(roles):
    """A list of the ascending tuples of some of the roles."""
    found = [()]
    for role in roles:
        found = found + [subset + (role,) for subset in found]
    return found


def _letter(query, role):
    return _LETTERS[list(query.roles).index(role)]


def _store(query, roles):
    """The name of the store of some roles."""
    letters = "".join([_letter(query, role) for role in roles])
    return f"s{letters}"


def _counter(query, side):
    """The name of the counter of a side role."""
    return f"n{_letter(query, side)}"


def _pipelines_by(query, tree):
    """The dict of the pipelines of a plan by a tree."""
    pipelines = {}
    for role in query.core:
        routes = _core_routes(query, tree, role)
        pipelines["add", role] = _recounts(query, role) + routes
        pipelines["remove", role] = routes
    for role in query.sides:
        pipelines["add", role] = pipelines["remove", role] = _side_routes(query, role)
    return pipelines


def _recounts(query, role):
    """The pipelines of a core role for the counters of the side roles of which it is a tie."""
    found = []
    for side in query.sides:
        ties = query.ties(side)
        if role in ties:
            found.append(_all_of(query, ties, role) + (("recount", _counter(query, side), _store(query, (side,))),))
    return tuple(found)


def _core_routes(query, tree, role):
    """The pipelines of a core role that keep stores up and emit."""
    update = ("update", _store(query, (role,)))
    main = (update,) + _climb(query, tree, role) + _gates(query, role)
    if query.optional is None:
        return (main + (("emit",),),)
    joins = tuple([step for step in _climb(query, tree, role) if step[0] == "join"])
    with_row = main + (("join", _store(query, (query.optional,))), ("emit",))
    return with_row, joins + (("none", _counter(query, query.optional)), ("emit",))


def _side_routes(query, role):
    """The pipelines of a side role."""
    ties = query.ties(role)
    others = tuple([core for core in query.core if core not in ties])
    update = ("update", _store(query, (role,)))
    counting = _all_of(query, ties, role) + (("count", _counter(query, role)),) + _all_of(query, others, role)
    if role == query.optional:
        return (update,) + _all_of(query, query.core, role) + (("emit",),), counting + (("emit",),)
    return ((update,) + counting + _gates(query, role) + (("emit",),),)


def _all_of(query, roles, role):
    """Joins with the stores of some roles, without the one that a pipeline starts with."""
    return tuple([("join", _store(query, (other,))) for other in roles if other != role])


def _gates(query, role):
    """The steps that ask for the rows of the "some" and "none" roles, without the one that a pipeline starts with."""
    return tuple([(query.sort_of(side), _counter(query, side)) for side in query.sides
                  if side not in (role, query.optional)])


def _climb(query, tree, role):
    """From a leaf up to the tree: the joins with other parts, and the updates of the stores of the nodes."""
    if tree is None:
        return _all_of(query, query.core, role)
    steps = ()
    for node in _nodes_in(tree):
        if not is_name(node) and role in _roles_in(node):
            part = node[1] if role in _roles_in(node[0]) else node[0]
            steps = steps + (("join", _store(query, _roles_in(part))),)
            if node != tree:
                steps = steps + (("update", _store(query, _roles_in(node))),)
    return steps


def _fills(query, old, new):
    """The transition to the plan by a new tree: it fills the stores that the plan by the old one does not keep up."""
    there = [_roles_in(node) for node in _kept_nodes(old)]
    return tuple([("fill", _store(query, _roles_in(node)), _store(query, _roles_in(node[0])),
                   _store(query, _roles_in(node[1])))
                  for node in _kept_nodes(new) if _roles_in(node) not in there])
