"""Schemes: a query, stores and counters, plans, and transitions between plans; and drafts of schemes."""

from shelfroutes.base.names import is_ascending, is_many, is_name, is_tuple
from shelfroutes.errors import (InvalidNumber, InvalidOperation, InvalidPlan, InvalidQuery, InvalidScheme, InvalidStore,
                                InvalidTable, InvalidTransition, NothingToUndo, UnknownName)
from shelfroutes.plan.plans import Plan
from shelfroutes.plan.steps import is_transition_of, last_roles
from shelfroutes.plan.stores import are_stores
from shelfroutes.query.queries import MAX_TABLES, Query

MAX_STORES = 12
MAX_PLANS = 6


class Scheme:
    """What an engine does; it never changes."""

    def __init__(self, query, *, lasting=(), stores, plans, transitions=None, first):
        given = {} if transitions is None else transitions
        if not isinstance(query, Query):
            raise InvalidQuery("not a query")
        if not is_ascending(lasting, 0, MAX_TABLES) or not all([table in query.tables for table in lasting]):
            raise InvalidTable("not an ascending tuple of tables")
        if not are_stores(query, stores):
            raise InvalidStore("not a dict of stores and counters of this query")
        if not _are_plans(query, lasting, stores, plans):
            raise InvalidPlan("not a dict from one to six names to plans for these stores")
        if not _are_transitions(query, stores, plans, given):
            raise InvalidTransition("not a dict from pairs of different plans to transitions for these stores")
        if not is_name(first) or first not in plans:
            raise UnknownName(first)
        self._query = query
        self._lasting = lasting
        self._stores = {name: stores[name] for name in sorted(stores)}
        self._plans = {name: plans[name] for name in sorted(plans)}
        self._transitions = {pair: given[pair] for pair in sorted(given)}
        self._first = first
        self._reached = _reached_from(first, self._transitions)
        self._is_single = _is_single(query, stores, plans, given)

    @property
    def query(self):
        """The query."""
        return self._query

    @property
    def lasting(self):
        """The ascending tuple of the tables whose rows never leave."""
        return self._lasting

    @property
    def stores(self):
        """A dict from names to stores and counters."""
        return {name: self._stores[name] for name in self._stores}

    @property
    def plans(self):
        """A dict from names to plans."""
        return {name: self._plans[name] for name in self._plans}

    @property
    def transitions(self):
        """A dict from pairs of plans to transitions."""
        return {pair: self._transitions[pair] for pair in self._transitions}

    @property
    def first(self):
        """The name of the first plan."""
        return self._first

    @property
    def reached(self):
        """The ascending tuple of the plans to which transitions lead from the first one."""
        return self._reached

    @property
    def is_single(self):
        """Whether no pair emits a result or updates a store in several steps, and no transition appends."""
        return self._is_single

    def __getitem__(self, at):
        if at not in self:
            raise UnknownName(at)
        return self._plans[at]

    def __iter__(self):
        raise TypeError("a scheme is not iterated over")

    def __contains__(self, x):
        return is_name(x) and x in self._plans

    def __len__(self):
        return len(self._plans)

    def __eq__(self, other):
        return (isinstance(other, Scheme) and self._query == other._query and self._lasting == other._lasting
                and self._stores == other._stores and self._plans == other._plans
                and self._transitions == other._transitions and self._first == other._first)

    def __str__(self):
        return ", ".join([f"scheme of {len(self._plans)} plans", f"{len(self._stores)} stores and counters",
                          f"{len(self._transitions)} transitions"])

    def steps_of(self, name, other):
        """The transition from one plan to another one."""
        for plan in (name, other):
            if plan not in self:
                raise UnknownName(plan)
        if (name, other) not in self._transitions:
            raise InvalidOperation("there is no such transition")
        return self._transitions[name, other]

    def with_plan(self, name, plan):
        """The scheme with this plan, added or replaced."""
        if not is_name(name):
            raise InvalidPlan("not a name of a plan")
        return self._with({**self._plans, name: plan}, self._transitions, self._first)

    def with_steps(self, name, other, steps):
        """The scheme with this transition, added or replaced."""
        if name not in self or other not in self:
            raise InvalidTransition("not names of plans")
        return self._with(self._plans, {**self._transitions, (name, other): steps}, self._first)

    def with_first(self, name):
        """The scheme with this first plan."""
        return self._with(self._plans, self._transitions, name)

    def _with(self, plans, transitions, first):
        return Scheme(self._query, lasting=self._lasting, stores=self._stores, plans=plans, transitions=transitions,
                      first=first)


class Draft:
    """A scheme that can be changed."""

    def __init__(self, scheme):
        check_scheme(scheme)
        self._made = scheme
        self._last = None

    @property
    def scheme(self):
        """The scheme as it is now."""
        return self._made

    @property
    def first(self):
        """The name of the first plan."""
        return self._made.first

    @first.setter
    def first(self, value):
        self.put_first(value)

    def __getitem__(self, at):
        return self._made[at]

    def __iter__(self):
        raise TypeError("a draft is not iterated over")

    def __setitem__(self, at, worth):
        if is_tuple(at, 2, 2):
            self.put_steps(at[0], at[1], worth)
        else:
            self.put_plan(at, worth)

    def put_plan(self, name, plan):
        """Add or replace a plan."""
        self._change(self._made.with_plan(name, plan))

    def put_steps(self, name, other, steps):
        """Add or replace a transition."""
        self._change(self._made.with_steps(name, other, steps))

    def put_first(self, name):
        """Make a plan the first one."""
        self._change(self._made.with_first(name))

    def _change(self, scheme):
        self._last = Change(self._made, self._last)
        self._made = scheme

    def undo(self, *, many=1):
        """Take back so many changes, and return how many are left."""
        if not is_many(many):
            raise InvalidNumber(many)
        if many > _number_of(self._last):
            raise NothingToUndo(many)
        for _ in range(many):
            self._made = self._last.before
            self._last = self._last.earlier
        return _number_of(self._last)

    def group(self):
        """A block whose changes count as one."""
        return Group(self)

    def grouped(self, call):
        """What the call returns for this draft; its changes count as one."""
        with self.group():
            return call(self)


class Change:
    """A change of a draft: the scheme before it, and the change before it or None."""

    def __init__(self, before, earlier):
        self.before = before
        self.earlier = earlier
        self.number = _number_of(earlier) + 1


class Group:
    """A block of changes of a draft. Inside it there are no earlier changes; behind it they are there again."""

    def __init__(self, draft):
        self._draft = draft

    def __enter__(self):
        self._before = self._draft._made
        self._earlier = self._draft._last
        self._as_one = Change(self._draft._made, self._draft._last)
        self._draft._last = None
        return self._draft

    def __exit__(self, kind, value, trace):
        if kind is not None:
            self._draft._made = self._before
            self._draft._last = self._earlier
        elif self._draft._last is None:
            self._draft._last = self._earlier
        else:
            self._draft._last = self._as_one


def check_scheme(value):
    """Raise an error if the value is no scheme."""
    if not isinstance(value, Scheme):
        raise InvalidScheme("not a scheme")


def _number_of(change):
    """How many changes there are up to this one."""
    return 0 if change is None else change.number


def _are_plans(query, lasting, stores, value):
    if not isinstance(value, dict) or not 1 <= len(value) <= MAX_PLANS or not all([is_name(name) for name in value]):
        return False
    return all([isinstance(value[name], Plan) and _fits(query, lasting, stores, value[name]) for name in value])


def _fits(query, lasting, stores, plan):
    """Whether a plan is right for a query, its lasting tables and its stores."""
    for word, role in plan:
        if role not in query or (word == "remove" and query.table_of(role) in lasting):
            return False
        if not all([last_roles(query, stores, (word, role), pipeline) is not None for pipeline in plan[word, role]]):
            return False
    return True


def _are_transitions(query, stores, plans, value):
    if not isinstance(value, dict) or not all([_is_pair_of(plans, pair) for pair in value]):
        return False
    return all([is_transition_of(query, stores, value[pair]) for pair in value])


def _is_pair_of(plans, value):
    """Whether the value is a pair of different names of plans."""
    if not is_tuple(value, 2, 2) or not all([is_name(name) and name in plans for name in value]):
        return False
    return value[0] != value[1]


def _reached_from(first, transitions):
    """The ascending tuple of the plans to which transitions lead from the first one, this one too."""
    reached = {first: True}
    is_changed = True
    while is_changed:
        found = [other for name, other in transitions if name in reached and other not in reached]
        reached = {**reached, **{name: True for name in found}}
        is_changed = found != []
    return tuple(sorted(list(reached)))


def _is_single(query, stores, plans, transitions):
    if any([step[0] == "append" for pair in transitions for step in transitions[pair]]):
        return False
    return all([_is_single_pair(query, stores, pair, plans[name][pair]) for name in plans for pair in plans[name]])


def _is_single_pair(query, stores, pair, pipelines):
    """Whether pipelines emit each kind of results and update each store in at most one step."""
    updated = [step[1] for pipeline in pipelines for step in pipeline if step[0] == "update"]
    emitting = [pipeline for pipeline in pipelines if pipeline[-1] == ("emit",)]
    kinds = [query.optional in last_roles(query, stores, pair, pipeline) for pipeline in emitting]
    return len(set(updated)) == len(updated) and len(set(kinds)) == len(kinds)
