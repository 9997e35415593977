"""Worlds: which rows are there, and what the results of a query are for them."""

from shelfroutes.base.bags import Bag
from shelfroutes.base.names import is_key, is_tuple
from shelfroutes.errors import (InvalidNumber, InvalidOperation, InvalidQuery, InvalidRow, TooMany, UnknownKey,
                                UnknownName)
from shelfroutes.query.links import Partners
from shelfroutes.query.queries import Query, is_ascending_roles, is_row_of, is_table

MAX_ROWS = 100
MAX_RESULTS = 2000


class World:
    """The rows that are there, each under its key; it never changes."""

    def __init__(self, query, *, rows=None):
        if not isinstance(query, Query):
            raise InvalidQuery("not a query")
        given = {} if rows is None else rows
        if not _is_rows(query, given):
            raise InvalidRow("not a dict from keys to pairs of a table and a row of it")
        if len(given) > MAX_ROWS:
            raise TooMany(MAX_ROWS)
        self._query = query
        self._rows = {key: given[key] for key in sorted(given)}

    @property
    def query(self):
        """The query."""
        return self._query

    @property
    def rows(self):
        """A dict from the keys to the pairs of a table and a row."""
        return {key: self._rows[key] for key in self._rows}

    def __getitem__(self, at):
        if at not in self:
            raise UnknownKey(at)
        return self._rows[at]

    def __iter__(self):
        raise TypeError("a world is not iterated over")

    def __contains__(self, x):
        return is_key(x) and x in self._rows

    def __len__(self):
        return len(self._rows)

    def __eq__(self, other):
        return isinstance(other, World) and self._query == other._query and self._rows == other._rows

    def __str__(self):
        return f"world of {len(self._rows)} rows"

    def keys_of(self, table):
        """The ascending tuple of the keys of the rows of a table."""
        if not is_table(self._query, table):
            raise UnknownName(table)
        return tuple([key for key in self._rows if self._rows[key][0] == table])

    def with_row(self, key, table, row):
        """The world in which this key has this row."""
        if not is_key(key):
            raise InvalidNumber(key)
        if not is_table(self._query, table):
            raise UnknownName(table)
        return World(self._query, rows={**self._rows, key: (table, row)})

    def __sub__(self, other):
        return World(self._query, rows=self._rows_without(other))

    def is_within(self, other):
        """Whether the other world has all these rows under the same keys."""
        return len(self._rows_without(other)) == 0

    def _rows_without(self, other):
        """The rows that another world does not have under the same keys."""
        if not isinstance(other, World) or self._query != other._query:
            raise InvalidOperation("not a world of an equal query")
        return {key: self._rows[key] for key in self._rows if other._rows.get(key) != self._rows[key]}


def matches(world, roles):
    """The ascending tuple of the matches of some roles."""
    _check_world(world)
    if not is_ascending_roles(world.query, roles):
        raise InvalidOperation("not an ascending tuple of roles, at most one of them a side role")
    return tuple(sorted(_all_matches(world, roles)))


def fitting(world, role, match):
    """The ascending tuple of the keys of the rows of a side role that fit a match of its ties."""
    _check_world(world)
    query = world.query
    if role not in query.sides:
        raise UnknownName(role)
    ties = query.ties(role)
    if not _is_match(world, ties, match):
        raise InvalidOperation("not a match of just the ties")
    return _fitting_keys(_side_partners(world, ties, role), match)


def is_due(world, match):
    """Whether a full match is due."""
    _check_world(world)
    query = world.query
    if not _is_match(world, query.core, match):
        raise InvalidOperation("not a full match")
    return _has_what_it_needs(query, {role: _side_partners(world, query.core, role) for role in query.sides}, match)


def results(world):
    """The bag of the results of the query, each of them once."""
    _check_world(world)
    query = world.query
    partners = {role: _side_partners(world, query.core, role) for role in query.sides}
    found = {}
    for match in matches(world, query.core):
        if _has_what_it_needs(query, partners, match):
            for result in _results_of(query, partners, match):
                found[result] = 1
            if len(found) > MAX_RESULTS:
                raise TooMany(MAX_RESULTS)
    return Bag(found)


def _is_rows(query, value):
    if not isinstance(value, dict):
        return False
    return all([is_key(key) and _is_placed(query, value[key]) for key in value])


def _is_placed(query, value):
    """Whether the value is a pair of a table and a row of it."""
    return is_tuple(value, 2, 2) and is_table(query, value[0]) and is_row_of(query, value[0], value[1])


def _check_world(value):
    if not isinstance(value, World):
        raise InvalidOperation("not a world")


def _is_match(world, roles, value):
    """Whether the value gives the key of a row of its table to each role such that all tests hold."""
    query = world.query
    if not is_tuple(value, len(roles), len(roles)) or not all([key in world for key in value]):
        return False
    if not all([world[key][0] == query.table_of(role) for role, key in zip(roles, value)]):
        return False
    return query.accepts({role: world[key][1] for role, key in zip(roles, value)})


def _side_partners(world, roles, side):
    """The rows of a side role, ready to be found by matches of roles with all its ties."""
    keys = world.keys_of(world.query.table_of(side))
    return Partners(world.query, world.rows, roles, (side,), [(key,) for key in keys])


def _fitting_keys(partners, match):
    return tuple([key for (key,) in partners.of_match(match)])


def _has_what_it_needs(query, partners, match):
    """Whether a row of each "some" role fits a full match, and no row of a "none" role does."""
    for role in partners:
        sort = query.sort_of(role)
        if sort != "optional" and (sort == "some") != (_fitting_keys(partners[role], match) != ()):
            return False
    return True


def _results_of(query, partners, match):
    """The results of a full match that is due."""
    if query.optional is None:
        return [match]
    keys = _fitting_keys(partners[query.optional], match)
    return [match + (key,) for key in keys] if keys != () else [match + (None,)]


def _all_matches(world, roles):
    """A list of the matches of some roles.

    Rows without a partner are dropped first, and each role comes behind those that it has tests with: so there
    are few parts of matches that cannot be completed.
    """
    query = world.query
    placed = world.rows
    choices = _narrowed(query, placed, {role: world.keys_of(query.table_of(role)) for role in roles})
    if not all([choices[role] != () for role in roles]):
        return []
    order = _linked_order(query, roles)
    levels = []
    for at, role in enumerate(order):
        levels.append(Partners(query, placed, order[:at], (role,), [(key,) for key in choices[role]]))
    found = []
    _collect(levels, (), found)
    places = [order.index(role) for role in roles]
    return [tuple([match[place] for place in places]) for match in found]


def _narrowed(query, placed, choices):
    """The keys that each role can have, without those whose rows have no partner in another role."""
    kept = {role: choices[role] for role in choices}
    pairs = [(role, other) for role in choices for other in choices if query.pairs(role, other) != ()]
    is_changed = True
    while is_changed:
        is_changed = False
        for role, other in pairs:
            partners = Partners(query, placed, (role,), (other,), [(key,) for key in kept[other]])
            left = tuple([key for key in kept[role] if partners.of_match((key,)) != []])
            if len(left) < len(kept[role]):
                kept = {**kept, role: left}
                is_changed = True
    return kept


def _linked_order(query, roles):
    """The roles in an order in which each one has tests with earlier ones, as far as this is possible."""
    order = ()
    while len(order) < len(roles):
        left = [role for role in roles if role not in order]
        linked = [role for role in left if any([query.pairs(role, other) != () for other in order])]
        order = order + ((linked + left)[0],)
    return order


def _collect(levels, match, found):
    """Add to a list all matches that begin with these keys."""
    if len(match) == len(levels):
        found.append(match)
        if len(found) > MAX_RESULTS:
            raise TooMany(MAX_RESULTS)
        return
    for longer in levels[len(match)].of_match(match):
        _collect(levels, match + longer, found)
